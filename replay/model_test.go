package replay_test

import (
	"bytes"
	"encoding/binary"
	"hash/crc32"
	"math"
	"math/rand"
	"slices"
	"testing"

	"wisp/api"
	"wisp/cart"
	"wisp/carts"
	"wisp/comp"
	"wisp/console"
	"wisp/replay"
	"wisp/sources"
	"wisp/vm"
)

// Errors and limits by the document's numbers, not by api's names: a slip in one of the two must show.
const (
	fine       = api.Errno(0)
	badInput   = api.Errno(2)
	badMagic   = api.Errno(70)
	badSum     = api.Errno(71)
	badTable   = api.Errno(72)
	badSection = api.Errno(73)
	badRecord  = api.Errno(210)
	other      = api.Errno(211)

	leastBudget, mostBudget = 4, 16384
	mostCart                = 524288
	mostPads                = 1024
)

// A second reckoning of the chapter's calls, by other means than the program's.

// lives says the outs of a life, without a console.
func lives(t *testing.T, image []byte, budget int, pads []uint8) []api.Out {
	t.Helper()
	inside, e := cart.Decode(image)
	if e != fine {
		t.Fatalf("the tests' own image: %d", e)
	}
	m, e := vm.New(inside)
	if e != fine {
		t.Fatalf("the tests' own image: %d", e)
	}
	var outs []api.Out
	for _, pad := range pads {
		o, e := m.Frame(pad, budget)
		if e != fine {
			t.Fatalf("the tests' own budget %d: %d", budget, e)
		}
		outs = append(outs, o)
	}
	return outs
}

// digestOf says an out's digest, by chapter 20's words.
func digestOf(o api.Out) uint32 {
	var b []byte
	for _, n := range []int{int(o.Status), int(o.Fault), o.Steps, o.Spent, o.Idle, len(o.Screen)} {
		b = binary.LittleEndian.AppendUint32(b, uint32(n))
	}
	b = append(b, o.Screen...)
	b = binary.LittleEndian.AppendUint32(b, uint32(len(o.Tones)))
	for _, tone := range o.Tones {
		b = binary.LittleEndian.AppendUint32(b, uint32(tone.Cycle))
		b = binary.LittleEndian.AppendUint16(b, tone.Pitch)
		b = append(b, tone.Volume)
	}
	return crc32.ChecksumIEEE(b)
}

// recordOf says what Record answers of a cartridge's image.
func recordOf(t *testing.T, image []byte, budget int, pads []uint8) replay.Recording {
	t.Helper()
	r := replay.Recording{Cart: image, Budget: budget, Pads: pads}
	for _, o := range lives(t, image, budget, pads) {
		r.Digests = append(r.Digests, digestOf(o))
	}
	return r
}

// firstOther says which is the first digest that differs, and Verify's error.
func firstOther(a, b []uint32) (int, api.Errno) {
	for i := range a {
		if a[i] != b[i] {
			return i, other
		}
	}
	return -1, fine
}

// sealed is bytes with their sum behind them.
func sealed(parts ...[]byte) []byte {
	b := slices.Concat(parts...)
	return binary.LittleEndian.AppendUint32(b, crc32.ChecksumIEEE(b))
}

func number(n int) []byte { return binary.AppendUvarint(nil, uint64(n)) }

// words is digests as bytes.
func words(digests ...uint32) []byte {
	var b []byte
	for _, d := range digests {
		b = binary.LittleEndian.AppendUint32(b, d)
	}
	return b
}

// head is what stands ahead of the runs.
func head(budget int, image []byte) []byte {
	return slices.Concat([]byte("WREC\x01"), number(budget), number(len(image)), image)
}

// bytesOf says what Encode answers of a recording that may be.
func bytesOf(r replay.Recording) []byte {
	var runs []byte
	many := 0
	for left := r.Pads; len(left) > 0; many++ {
		end := slices.IndexFunc(left, func(pad uint8) bool { return pad != left[0] })
		if end < 0 {
			end = len(left)
		}
		runs = append(append(runs, number(end)...), left[0])
		left = left[end:]
	}
	return sealed(head(r.Budget, r.Cart), number(many), runs, words(r.Digests...))
}

// taker takes up numbers and bytes; once something is wrong, it stays wrong.
type taker struct {
	left  []byte
	wrong bool
}

func (k *taker) number() int {
	n, size := binary.Uvarint(k.left)
	if size <= 0 || n > math.MaxUint32 || len(binary.AppendUvarint(nil, n)) != size {
		k.wrong, k.left = true, nil
		return 0
	}
	k.left = k.left[size:]
	return int(n)
}

func (k *taker) bytes(n int) []byte {
	if n > len(k.left) {
		k.wrong, k.left = true, nil
		return nil
	}
	b := k.left[:n]
	k.left = k.left[n:]
	return b
}

// decodeOf says what Decode answers, by the rules that the chapter names, one by one.
func decodeOf(b []byte) (replay.Recording, api.Errno) {
	body, ok := bytes.CutPrefix(b, []byte("WREC\x01"))
	if !ok || len(body) < 4 || !bytes.Equal(sealed(b[:len(b)-4]), b) {
		return replay.Recording{}, badRecord
	}
	k := &taker{left: body[:len(body)-4]}
	r := replay.Recording{Budget: k.number()}
	r.Cart = k.bytes(k.number())
	last := -1
	for runs := k.number(); runs > 0 && !k.wrong; runs-- {
		frames := k.number()
		pad := k.bytes(1)
		if k.wrong || frames == 0 || int(pad[0]) == last || len(r.Pads)+frames > mostPads {
			return replay.Recording{}, badRecord
		}
		last = int(pad[0])
		r.Pads = append(r.Pads, bytes.Repeat(pad, frames)...)
	}
	if k.wrong || len(k.left) != 4*len(r.Pads) || r.Budget < leastBudget || r.Budget > mostBudget || len(r.Cart) > mostCart {
		return replay.Recording{}, badRecord
	}
	for range r.Pads {
		r.Digests = append(r.Digests, binary.LittleEndian.Uint32(k.bytes(4)))
	}
	return r, fine
}

func same(a, b replay.Recording) bool {
	return a.Budget == b.Budget && bytes.Equal(a.Cart, b.Cart) && bytes.Equal(a.Pads, b.Pads) && slices.Equal(a.Digests, b.Digests)
}

// empty tells whether a recording is the zero one, which stands beside an error.
func empty(r replay.Recording) bool {
	return r.Cart == nil && r.Budget == 0 && r.Pads == nil && r.Digests == nil
}

// imageOf is the image of a source.
func imageOf(t *testing.T, src string) []byte {
	t.Helper()
	b, at, e := comp.Compile(src)
	if e != fine {
		t.Fatalf("the tests' own %.300s: %d at %v", src, e, at)
	}
	return b
}

// Sources for lives: one that never looks at the gamepad; one that shows it; one that shows it two frames later; one that adds up all that there were; one that halts, and one that faults, at a gamepad 9; one that looks at its lowest bit alone; one that plays it.
const (
	blind   = ": main begin yield again ;"
	shows   = ": main begin pad 49152 c! yield again ;"
	later   = "variable a variable b : main begin b @ 49152 ! a @ b ! pad a ! yield again ;"
	adds    = "variable x : main begin pad x +! x @ 49152 ! yield again ;"
	halts   = ": main begin pad 9 = if halt then yield again ;"
	faults  = ": main begin pad 9 = if drop then yield again ;"
	lowest  = ": main begin pad 1 and 49152 c! yield again ;"
	plays   = ": main begin pad 440 + 9 tone yield again ;"
	changes = "variable x : main begin x @ 1+ dup x ! 49152 ! yield again ;"
)

var sourcesOfLives = []string{blind, shows, later, adds, halts, faults, lowest, plays, changes}

// anySource is one that is well formed, of any sort.
func anySource(r *rand.Rand) string {
	return sources.Any(r, func(src string) bool {
		_, e := comp.Well(src)
		return e == fine
	})
}

// anyImage is one of any sort: of the sources above, of a drawn one, of a drawn cartridge.
func anyImage(t *testing.T, r *rand.Rand) []byte {
	t.Helper()
	switch r.Intn(4) {
	case 0:
		return imageOf(t, sourcesOfLives[r.Intn(len(sourcesOfLives))])
	case 1:
		b, e := cart.Encode(carts.Any(r))
		if e != fine {
			t.Fatalf("the tests' own cartridge: %d", e)
		}
		return b
	}
	return imageOf(t, anySource(r))
}

// anyPads is so many gamepads: noise, few sorts, or long runs; a 9 now and then.
func anyPads(r *rand.Rand, many int) []uint8 {
	pads := make([]uint8, many)
	r.Read(pads)
	switch r.Intn(3) {
	case 0:
		for i := range pads {
			pads[i] %= 2
		}
	case 1:
		for i := 1; i < many; i++ {
			if r.Intn(9) > 0 {
				pads[i] = pads[i-1]
			}
		}
	}
	if many > 0 && r.Intn(4) == 0 {
		pads[r.Intn(many)] = 9
	}
	return pads
}

// anyRecording is one that may be; its cartridge is any bytes, and its digests are any numbers.
func anyRecording(r *rand.Rand) replay.Recording {
	many := []int{0, 1, 2, r.Intn(40), r.Intn(300), mostPads - r.Intn(2)}[r.Intn(6)]
	x := replay.Recording{Cart: make([]byte, r.Intn(400)), Budget: leastBudget + r.Intn(mostBudget-leastBudget+1), Pads: anyPads(r, many), Digests: make([]uint32, many)}
	r.Read(x.Cart)
	for i := range x.Digests {
		x.Digests[i] = r.Uint32()
	}
	if r.Intn(3) == 0 {
		x.Budget = leastBudget + r.Intn(300)
	}
	return x
}

// refusedImages are bytes that console.Load refuses, each with its error.
func refusedImages(t *testing.T) map[string]struct {
	bytes []byte
	e     api.Errno
} {
	t.Helper()
	b := imageOf(t, blind)
	body := len(b) - 4
	magic, sum, kind := bytes.Clone(b), bytes.Clone(b), bytes.Clone(b)
	magic[0] = 'w'
	sum[body] ^= 1
	kind[8] = 9
	odd := []byte("WISP\x01\x02\x00\x00\x01\x00\x1c\x00\x00\x00\x01\x00\x00\x00\x02\x00\x1d\x00\x00\x00\x00\x00\x00\x00\x07") // code of one byte
	all := map[string]struct {
		bytes []byte
		e     api.Errno
	}{
		"nothing":               {nil, badMagic},
		"no bytes":              {[]byte{}, badMagic},
		"another beginning":     {sealed(magic[:body]), badMagic},
		"most zeros":            {make([]byte, mostCart), badMagic},
		"another sum":           {sum, badSum},
		"a byte less":           {b[:len(b)-1], badSum},
		"the beginning alone":   {[]byte("WISP\x01"), badSum},
		"another kind":          {sealed(kind[:body]), badTable},
		"as many as there are":  {sealed(b[:body], make([]byte, mostCart-len(b))), badTable},
		"an odd length of code": {sealed(odd), badSection},
	}
	for what, x := range all {
		c, _ := console.New(100)
		if e := c.Load(x.bytes); e != x.e {
			t.Fatalf("the tests' own bytes, %s: Load = %d, want %d", what, e, x.e)
		}
	}
	return all
}

// inParts runs a test's part eight times at once, each with dice of its own.
func inParts(t *testing.T, seed int64, part func(t *testing.T, r *rand.Rand)) {
	t.Helper()
	t.Run("parts", func(t *testing.T) {
		for n := range int64(8) {
			t.Run("", func(t *testing.T) {
				t.Parallel()
				part(t, rand.New(rand.NewSource(seed+n)))
			})
		}
	})
}

// recorded is what Record answers, which must be without an error.
func recorded(t *testing.T, image []byte, budget int, pads ...uint8) replay.Recording {
	t.Helper()
	r, e := replay.Record(image, budget, pads)
	if e != fine {
		t.Fatalf("21.1: Record = %d", e)
	}
	return r
}

// wantVerify asks what Verify answers.
func wantVerify(t *testing.T, what string, r replay.Recording, frame int, e api.Errno) {
	t.Helper()
	if n, f := replay.Verify(r); n != frame || f != e {
		t.Errorf("21.2: Verify of %s: %d, %d, want %d, %d", what, n, f, frame, e)
	}
}

// clone is a recording with lists of its own.
func clone(r replay.Recording) replay.Recording {
	r.Cart, r.Pads, r.Digests = bytes.Clone(r.Cart), bytes.Clone(r.Pads), slices.Clone(r.Digests)
	return r
}
