package state_test

import (
	"bytes"
	"math/rand"
	"slices"
	"testing"

	"wisp/api"
	"wisp/cart"
	"wisp/carts"
	"wisp/comp"
	"wisp/console"
	"wisp/mem"
	"wisp/sources"
	"wisp/vm"
)

// made is a console without a cartridge.
func made(t *testing.T, budget int) *console.Console {
	t.Helper()
	c, e := console.New(budget)
	if e != fine {
		t.Fatalf("the tests' own budget %d: %d", budget, e)
	}
	return c
}

// playing is a console with a source in.
func playing(t *testing.T, budget int, src string) *console.Console {
	t.Helper()
	c := made(t, budget)
	if at, e := c.Source(src); e != fine {
		t.Fatalf("the tests' own %.300s: %d at %v", src, e, at)
	}
	return c
}

// holding is a console with a cartridge in.
func holding(t *testing.T, budget int, inside api.Cart) *console.Console {
	t.Helper()
	c := made(t, budget)
	if e := c.Load(imageOf(t, inside)); e != fine {
		t.Fatalf("the tests' own cartridge: %d", e)
	}
	return c
}

// imageOf is the bytes of a cartridge.
func imageOf(t *testing.T, inside api.Cart) []byte {
	t.Helper()
	b, e := cart.Encode(inside)
	if e != fine {
		t.Fatalf("the tests' own cartridge: %d", e)
	}
	return b
}

// bare is the empty cartridge of chapter 7's first example.
func bare() []byte {
	return sealed([]byte("WISP\x01\x02\x00\x00\x01\x00\x1c\x00\x00\x00\x00\x00\x00\x00\x02\x00\x1c\x00\x00\x00\x00\x00\x00\x00"))
}

// blank is the memory that is at first, with these banks.
func blank(banks ...int) mem.Image {
	x := mem.Image{Ram: make([]byte, ramRoom), Screen: make([]byte, screenRoom)}
	for _, n := range banks {
		x.Banks = append(x.Banks, api.Bank{Num: n, Data: make([]byte, bankRoom)})
	}
	return x
}

// plain is a state of the empty cartridge with these banks, as it was put in, with a budget of 100.
func plain(t *testing.T, banks ...int) saved {
	t.Helper()
	var inside api.Cart
	for _, n := range banks {
		inside.Banks = append(inside.Banks, api.Bank{Num: n})
	}
	return saved{budget: 100, with: true, cart: imageOf(t, inside), state: vm.State{At: 2, Status: running}, image: blank(banks...)}
}

// full is a state in which each part is there: two banks, cells on both stacks, bytes in all lists, every value other than 0.
func full(t *testing.T) saved {
	t.Helper()
	s := plain(t, 2, 9)
	s.budget, s.frames = 300, 0x0102030405060708
	s.state = vm.State{At: 0x1234, Status: faulted, Fault: 5, Data: []uint16{7, 0xabcd, 0}, Return: []api.Cell{{Kind: 1, Value: 130}, {Kind: 2, Value: 10}, {Kind: 3, Value: 0x0203}, {Kind: 4, Value: 0}}}
	copy(s.image.Banks[0].Data, []byte{5, 0, 6})
	copy(s.image.Banks[1].Data, bytes.Repeat([]byte{8}, 130))
	copy(s.image.Ram, []byte{0, 0, 3})
	copy(s.image.Screen, []byte{1, 2})
	s.image.Chosen, s.image.Pad, s.image.Pitch, s.image.Volume, s.image.Time = 9, 200, 0x0304, 255, 0x0506
	return s
}

// Sources for lives: one that never looks at the gamepad; one that adds up all that there were; one that halts, and one that faults, at a gamepad 9; one that plays; one that never yields, with words and loops in one another; one that writes to banks; one that fills the data stack; one that keeps cells on the return stack over frames.
const (
	blind  = ": main begin yield again ;"
	adds   = "variable x : main begin pad x +! x @ 49152 ! yield again ;"
	halts  = ": main begin pad 9 = if halt then yield again ;"
	faults = ": main begin pad 9 = if drop then yield again ;"
	plays  = ": main begin pad 440 + dup 9 tone 65286 c! yield again ;"
	turns  = "variable n : deep >r 3 0 do 2 0 do j i + n +! loop loop r> drop ; : main begin pad 7 deep n @ dup 63 and swap 6 rshift 47 and rot plot again ;"
	banked = "2 bank { 5 0 7 } 9 bank { } 300 buffer b : main begin pad bank 16384 c@ 1+ 16384 c! 32767 c@ 3 + 32767 c! pad b 299 + c! yield again ;"
	grows  = ": main begin 1 yield again ;"
	keeps  = ": w >r yield r@ 49153 c! yield r> ; : main begin 3 0 do i w drop loop again ;"
)

var sourcesOfLives = []string{blind, adds, halts, faults, plays, turns, banked, grows, keeps}

// anySource is one that is well formed, of any sort.
func anySource(r *rand.Rand) string {
	return sources.Any(r, func(src string) bool {
		_, e := comp.Well(src)
		return e == fine
	})
}

// anyCart is of all sorts, with banks more often than not.
func anyCart(t *testing.T, r *rand.Rand) api.Cart {
	t.Helper()
	c := carts.Any(r)
	if n := r.Intn(4); n > 0 {
		src := anySource(r)
		if n == 1 {
			src = sourcesOfLives[r.Intn(len(sourcesOfLives))]
		}
		b, _, e := comp.Compile(src)
		if e != fine {
			t.Fatalf("the tests' own %.300s: %d", src, e)
		}
		c, _ = cart.Decode(b)
		c = carts.Changed(r, c, r.Intn(2))
	}
	if len(c.Banks) == 0 && r.Intn(2) == 0 {
		c.Banks = []api.Bank{{Num: r.Intn(2), Data: []byte{1, 2, byte(r.Intn(256))}}, {Num: 2 + r.Intn(14)}}
	}
	return c
}

func anyPads(r *rand.Rand, many int) []uint8 {
	pads := make([]uint8, many)
	r.Read(pads)
	if many > 0 && r.Intn(4) == 0 {
		pads[r.Intn(many)] = 9
	}
	return pads
}

func anyBudget(r *rand.Rand) int {
	if r.Intn(30) == 0 {
		return []int{leastBudget, mostBudget}[r.Intn(2)]
	}
	return carts.Budget(r)
}

// drawnLife is a console behind some frames of a drawn cartridge.
func drawnLife(t *testing.T, r *rand.Rand) *console.Console {
	t.Helper()
	c := holding(t, anyBudget(r), anyCart(t, r))
	c.Play(anyPads(r, r.Intn(12))...)
	return c
}

// scatter writes some bytes into room: none, few, up to its end, or all.
func scatter(r *rand.Rand, room []byte) {
	switch r.Intn(5) {
	case 0:
		r.Read(room)
	case 1:
		room[len(room)-1] = byte(r.Intn(256))
	case 2:
		r.Read(room[:r.Intn(300)])
	case 3:
		for range r.Intn(4) {
			room[r.Intn(len(room))] = byte(r.Intn(256))
		}
	}
}

// drawnState is one of a drawn cartridge that no life leads to, for the most part: anything may stand anywhere.
func drawnState(t *testing.T, r *rand.Rand) saved {
	t.Helper()
	s := savedOf(holding(t, anyBudget(r), anyCart(t, r)))
	s.frames = []int{0, 1, r.Intn(1000), 1<<32 - 1, 1 << 32, r.Intn(greatestCount), greatestCount - 100}[r.Intn(7)]
	x := &s.state
	x.Data, x.Return = make([]uint16, []int{0, r.Intn(5), r.Intn(257), 256}[r.Intn(4)]), make([]api.Cell, []int{0, r.Intn(5), r.Intn(129), 128}[r.Intn(4)])
	for i := range x.Data {
		x.Data[i] = uint16(r.Intn(65536))
	}
	for i := range x.Return {
		x.Return[i] = api.Cell{Kind: 1 + r.Intn(4), Value: uint16(r.Intn(65536))}
	}
	switch r.Intn(8) {
	case 0:
		x.Status = halted
	case 1:
		x.Status, x.Fault = faulted, api.Fault(1+r.Intn(7))
	}
	if r.Intn(2) == 0 {
		x.At = uint16(128 + 2*r.Intn(40))
	}
	if r.Intn(8) == 0 {
		x.At = uint16(r.Intn(65536))
	}
	for _, b := range s.image.Banks {
		scatter(r, b.Data)
	}
	scatter(r, s.image.Ram)
	scatter(r, s.image.Screen)
	s.image.Chosen, s.image.Pad, s.image.Volume = byte(r.Intn(16)), byte(r.Intn(256)), byte(r.Intn(256))
	s.image.Pitch, s.image.Time = uint16(r.Intn(65536)), uint16(r.Intn(65536))
	return s
}

func sameOut(a, b api.Out) bool {
	return a.Status == b.Status && a.Fault == b.Fault && a.Steps == b.Steps && a.Spent == b.Spent && a.Idle == b.Idle && bytes.Equal(a.Screen, b.Screen) && slices.Equal(a.Tones, b.Tones)
}

// inParts runs a test's part eight times at once, each with dice of its own.
func inParts(t *testing.T, seed int64, part func(t *testing.T, r *rand.Rand)) {
	t.Helper()
	t.Run("parts", func(t *testing.T) {
		for n := range int64(8) {
			t.Run("", func(t *testing.T) {
				t.Parallel()
				part(t, rand.New(rand.NewSource(seed+n)))
			})
		}
	})
}
