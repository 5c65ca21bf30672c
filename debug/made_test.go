package debug_test

import (
	"math/rand"
	"slices"
	"strconv"
	"strings"
	"testing"

	"wisp/api"
	"wisp/cart"
	"wisp/carts"
	"wisp/comp"
	"wisp/debug"
	"wisp/sources"
)

// Errors and statuses by the document's numbers, not by api's names: a slip in one of the two must show.
const (
	fine      = api.Errno(0)
	noHandle  = api.Errno(1)
	badInput  = api.Errno(2)
	badCart   = api.Errno(74)
	badBudget = api.Errno(190)
	past      = api.Errno(250)

	running = api.Status(1)
	halted  = api.Status(2)
	faulted = api.Status(3)

	mostSteps = 65536
)

// compiled is a source's cartridge: behind the 64 threads its words begin at 128.
func compiled(t *testing.T, src string) api.Cart {
	t.Helper()
	b, at, e := comp.Compile(src)
	if e != fine {
		t.Fatalf("the tests' own %.300s: %d at %v", src, e, at)
	}
	c, _ := cart.Decode(b)
	return c
}

// celled is a cartridge whose main lies at 128: its code field, then these cells. The cell 2k, as a thread, does the primitive k.
func celled(cells ...uint16) api.Cart {
	return carts.Of(128, append([]uint16{1}, cells...)...)
}

// debugging is a session of a cartridge.
func debugging(t *testing.T, c api.Cart, budget int, pads ...uint8) *debug.Session {
	t.Helper()
	s, e := debug.New(c, budget, pads)
	if s == nil || e != fine {
		t.Fatalf("New = %v, %d", s != nil, e)
	}
	return s
}

// sourced is a session of a source.
func sourced(t *testing.T, src string, budget int, pads ...uint8) *debug.Session {
	t.Helper()
	return debugging(t, compiled(t, src), budget, pads...)
}

func wantStep(t *testing.T, s *debug.Session, n, want int) {
	t.Helper()
	if got := s.Step(n); got != want {
		t.Fatalf("25.3: Step(%d) = %d, want %d", n, got, want)
	}
}

func wantBack(t *testing.T, s *debug.Session, n, want int, e api.Errno) {
	t.Helper()
	if got, err := s.Back(n); got != want || err != e {
		t.Fatalf("25.4: Back(%d) = %d, %d, want %d, %d", n, got, err, want, e)
	}
}

func wantCount(t *testing.T, s *debug.Session, steps, frames int) {
	t.Helper()
	if a, b := s.Count(); a != steps || b != frames {
		t.Fatalf("25.6: Count() = %d, %d, want %d, %d", a, b, steps, frames)
	}
}

// wantRun asks why Run has stopped, and behind how many steps in all.
func wantRun(t *testing.T, s *debug.Session, why, steps int) {
	t.Helper()
	got := s.Run()
	if n, _ := s.Count(); got != why || n != steps {
		t.Fatalf("25.5: Run() = %d behind %d steps, want %d behind %d", got, n, why, steps)
	}
}

func wantPeek(t *testing.T, s *debug.Session, at uint16, want uint8) {
	t.Helper()
	if x := s.Peek(at); x != want {
		t.Fatalf("25.6: Peek(%d) = %d, want %d", at, x, want)
	}
}

// wantProfile asks for words by pairs: address, cycles.
func wantProfile(t *testing.T, s *debug.Session, pairs ...int) {
	t.Helper()
	var want []debug.Spent
	for i := 0; i < len(pairs); i += 2 {
		want = append(want, debug.Spent{At: uint16(pairs[i]), Cycles: pairs[i+1]})
	}
	if got := s.Profile(); !slices.Equal(got, want) {
		t.Fatalf("25.7: Profile() = %v, want %v", got, want)
	}
}

// corners are the addresses at which something begins or ends, and those ahead of them.
var corners = []uint16{0, 1, 0x3ffe, 0x3fff, 0x4000, 0x4001, 0x7ffe, 0x7fff, 0x8000, 0x8001, 0xbffe, 0xbfff, 0xc000, 0xcbfe, 0xcbff, 0xcc00, 0xfeff, 0xff00, 0xff01, 0xff02, 0xff03, 0xff04, 0xff05, 0xff06, 0xff07, 0xff08, 0xff09, 0xff0a, 0xfffe, 0xffff}

// writing is a source of so many writes of all sorts to those places, with words, loops and yields between; hardly any number is there twice.
func writing(r *rand.Rand, many int) string {
	var b strings.Builder
	put := func(words ...any) {
		for _, x := range words {
			switch x := x.(type) {
			case string:
				b.WriteString(x + " ")
			case int:
				b.WriteString(strconv.Itoa(x) + " ")
			}
		}
	}
	if r.Intn(3) > 0 {
		put(0, "bank { 7 8 9 }")
	}
	put(3, "bank { 1 2 } : poke dup c@ drop ! ; : turn 2 0 do i over +! loop drop ; : main")
	again := r.Intn(2) == 0
	if again {
		put("begin")
	}
	for range many {
		x, at := r.Intn(65536), int(corners[r.Intn(len(corners))])
		switch r.Intn(12) {
		case 0, 1:
			put(x, at, "!")
		case 2, 3:
			put(x, at, "c!")
		case 4:
			put(x, at, "+!")
		case 5:
			put(r.Intn(66), r.Intn(50), x, "plot")
		case 6:
			put(x, r.Intn(512), "tone")
		case 7:
			put(r.Intn(4), "bank")
		case 8:
			put(x, at, "poke")
		case 9:
			put(at, "turn")
		case 10:
			put("pad", at, "c!")
		case 11:
			put("yield")
		}
	}
	if again {
		put("yield again")
	}
	put(";")
	return b.String()
}

// anyCart is of all sorts; many fault, and write to anywhere.
func anyCart(t *testing.T, r *rand.Rand) api.Cart {
	t.Helper()
	switch r.Intn(6) {
	case 0:
		return carts.Any(r)
	case 1:
		return compiled(t, sources.NewLively(r).Program(1+r.Intn(5)))
	case 2:
		return carts.Changed(r, compiled(t, writing(r, 1+r.Intn(8))), 1+r.Intn(2))
	}
	return compiled(t, writing(r, 1+r.Intn(12)))
}

// anyPads are few, so that lives are short; the same one twice in a row now and then.
func anyPads(r *rand.Rand) []uint8 {
	pads := make([]uint8, r.Intn(7))
	for i := range pads {
		pads[i] = uint8(r.Intn(3) * 100)
	}
	return pads
}
