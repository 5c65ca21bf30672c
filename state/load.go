package state

import (
	"bytes"
	"math"

	"wisp/api"
	"wisp/console"
	"wisp/mem"
	"wisp/pack"
	"wisp/vm"
)

// sumSize is how many bytes the sum has.
const sumSize = 4

// reading is a state whose parts are being taken up. Each part tells whether it may be; that there are bytes enough for it, and that its numbers are in their one form, inOrder asks.
type reading struct {
	from   *pack.Reader
	box    *console.Console
	cart   []byte
	frames int
	state  vm.State
	image  mem.Image
}

// Load makes a console that goes on from a state.
func Load(b []byte) (*console.Console, api.Errno) {
	body, ok := unsealed(b)
	if !ok {
		return nil, api.ErrState
	}
	r := &reading{from: pack.NewReader(body)}
	if !r.inOrder(r.begins, r.budget, r.inside) {
		return nil, api.ErrState
	}
	return r.box, api.OK
}

// unsealed tells the bytes ahead of the sum, and whether it is theirs.
func unsealed(b []byte) ([]byte, bool) {
	end := len(b) - sumSize
	if end < 0 {
		return nil, false
	}
	return b[:end], pack.NewReader(b[end:]).Word() == pack.Sum(b[:end])
}

// inOrder takes up parts, one behind the other, till one may not be.
func (r *reading) inOrder(parts ...func() bool) bool {
	for _, part := range parts {
		if !part() || r.from.Err() != api.OK {
			return false
		}
	}
	return true
}

func (r *reading) begins() bool {
	return string(r.from.Bytes(len(beginning))) == beginning
}

func (r *reading) budget() bool {
	box, e := console.New(r.from.Number())
	r.box = box
	return e == api.OK
}

// inside takes up all that is left: what stands there hangs on whether a cartridge is in.
func (r *reading) inside() bool {
	switch r.from.Byte() {
	case without:
		return r.ends()
	case with:
		return r.inOrder(r.cartridge, r.played, r.standing, r.dataStack, r.returnStack, r.rooms, r.ports, r.ends, r.restored)
	}
	return false
}

// cartridge puts it in, for its memory as it is at first: that has the banks by their numbers, and all the room that the lists fill.
func (r *reading) cartridge() bool {
	r.cart = r.from.Bytes(r.from.Number())
	e := r.box.Load(r.cart)
	r.image = r.box.Machine().Memory().Image()
	return e == api.OK
}

func (r *reading) played() bool {
	low := uint64(r.from.Word())
	frames := uint64(r.from.Word())<<halfBits | low
	r.frames = int(frames)
	return frames <= math.MaxInt
}

func (r *reading) standing() bool {
	r.state.At = r.from.Cell()
	r.state.Status = api.Status(r.from.Byte())
	r.state.Fault = api.Fault(r.from.Byte())
	return true
}

// dataStack gives up at a height that may not be, as returnStack does, so that a number that lies takes neither time nor memory.
func (r *reading) dataStack() bool {
	height := r.from.Number()
	if height > api.MaxData {
		return false
	}
	for range height {
		r.state.Data = append(r.state.Data, r.from.Cell())
	}
	return true
}

func (r *reading) returnStack() bool {
	height := r.from.Number()
	if height > api.MaxReturn {
		return false
	}
	for range height {
		kind := int(r.from.Byte())
		r.state.Return = append(r.state.Return, api.Cell{Kind: kind, Value: r.from.Cell()})
	}
	return true
}

func (r *reading) rooms() bool {
	for _, bank := range r.image.Banks {
		if !r.fill(bank.Data) {
			return false
		}
	}
	return r.fill(r.image.Ram) && r.fill(r.image.Screen)
}

// fill takes up a list of bytes into room, with zeros behind it; false, if it could be shorter, or there is not so much room.
func (r *reading) fill(room []byte) bool {
	list := r.from.Bytes(r.from.Number())
	if len(list) > len(room) || bytes.HasSuffix(list, []byte{0}) {
		return false
	}
	clear(room[copy(room, list):])
	return true
}

func (r *reading) ports() bool {
	r.image.Chosen = r.from.Byte()
	r.image.Pad = r.from.Byte()
	r.image.Pitch = r.from.Cell()
	r.image.Volume = r.from.Byte()
	r.image.Time = r.from.Cell()
	return true
}

func (r *reading) ends() bool {
	return r.from.Left() == 0
}

// restored makes the console that stands there; what no machine can be is refused here.
func (r *reading) restored() bool {
	box, e := console.Restore(r.box.Budget(), r.cart, r.frames, r.state, r.image)
	r.box = box
	return e == api.OK
}
