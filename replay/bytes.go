package replay

import (
	"bytes"

	"wisp/api"
	"wisp/pack"
)

// beginning is what a recording's bytes begin with: four letters, and the version.
const beginning = "WREC\x01"

// run is a gamepad that stands for so many frames in a row.
type run struct {
	frames int
	pad    uint8
}

// Encode tells the bytes of a recording.
func Encode(r Recording) ([]byte, api.Errno) {
	if !r.mayBe() {
		return nil, api.ErrRecord
	}
	var w pack.Writer
	w.Bytes([]byte(beginning))
	w.Number(r.Budget)
	w.Number(len(r.Cart))
	w.Bytes(r.Cart)
	runs := runsOf(r.Pads)
	w.Number(len(runs))
	for _, x := range runs {
		w.Number(x.frames)
		w.Byte(x.pad)
	}
	for _, digest := range r.Digests {
		w.Word(digest)
	}
	w.Word(pack.Sum(w.Done()))
	return w.Done(), api.OK
}

// runsOf tells gamepads as runs, as few as can be.
func runsOf(pads []uint8) []run {
	var runs []run
	for frame, pad := range pads {
		if frame == 0 || pad != pads[frame-1] {
			runs = append(runs, run{pad: pad})
		}
		runs[len(runs)-1].frames++
	}
	return runs
}

// Decode tells the recording of bytes.
func Decode(b []byte) (Recording, api.Errno) {
	r, ok := takeUp(pack.NewReader(b))
	if !ok {
		return Recording{}, api.ErrRecord
	}
	// Another beginning or sum, bytes behind it, runs that could be fewer and what may not be in a recording all show here: this one's form is another, or it has none.
	if form, e := Encode(r); e != api.OK || !bytes.Equal(form, b) {
		return Recording{}, api.ErrRecord
	}
	return r, api.OK
}

// takeUp takes up what stands ahead of the sum, whatever the beginning says; false, if that cannot be taken up.
func takeUp(from *pack.Reader) (Recording, bool) {
	var r Recording
	from.Bytes(len(beginning))
	r.Budget = from.Number()
	r.Cart = from.Bytes(from.Number())
	pads, ok := takeUpPads(from)
	if !ok {
		return Recording{}, false
	}
	r.Pads = pads
	r.Digests = make([]uint32, len(pads))
	for frame := range r.Digests {
		r.Digests[frame] = from.Word()
	}
	return r, from.Err() == api.OK
}

// takeUpPads gives up at the run that passes the bytes or the frames that may be, so that numbers that lie take neither time nor memory.
func takeUpPads(from *pack.Reader) ([]uint8, bool) {
	var pads []uint8
	for range from.Number() {
		x := run{frames: from.Number(), pad: from.Byte()}
		if from.Err() != api.OK || x.frames > api.MaxPads-len(pads) {
			return nil, false
		}
		pads = append(pads, bytes.Repeat([]byte{x.pad}, x.frames)...)
	}
	return pads, true
}
