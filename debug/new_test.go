package debug_test

import (
	"math"
	"reflect"
	"slices"
	"testing"

	"wisp/api"
	"wisp/carts"
	"wisp/debug"
	"wisp/spare"
	"wisp/vm"
)

func TestBudgets(t *testing.T) { // 25.1: 4 to 16384
	c := compiled(t, ": main begin again ;")
	for _, budget := range []int{math.MinInt, math.MinInt32, -16384, -4, -1, 0, 1, 2, 3, 16385, 16386, 65536 + 100, 1<<32 + 100, math.MaxInt} {
		if s, e := debug.New(c, budget, []uint8{1}); s != nil || e != badBudget {
			t.Errorf("25.1: a budget of %d: %v, %d", budget, s != nil, e)
		}
	}
	for _, budget := range []int{4, 5, 6, 100, 16383, 16384} {
		s := debugging(t, c, budget, 1)
		wantStep(t, s, math.MaxInt, budget/2)
	}
}

func TestGamepads(t *testing.T) { // 25.1: up to 1024, and each of them has its frame
	c := compiled(t, ": main begin yield again ;")
	for _, many := range []int{1025, 1026, 2048, 70000} {
		if s, e := debug.New(c, 100, make([]uint8, many)); s != nil || e != badInput {
			t.Errorf("25.1: %d gamepads: %v, %d", many, s != nil, e)
		}
	}
	pads := make([]uint8, 1024)
	for i := range pads {
		pads[i] = uint8(i * 7)
	}
	for _, many := range []int{2, 4, 512, 1024} {
		s := debugging(t, c, 4, pads[:many]...)
		wantStep(t, s, math.MaxInt, 2*many-1)
		wantCount(t, s, 2*many-1, many)
		wantPeek(t, s, 0xff02, pads[many-1])
		wantPeek(t, s, 0xff08, uint8(many))
		wantPeek(t, s, 0xff09, uint8(many/256))
		wantBack(t, s, many, many, fine)
		wantCount(t, s, many-1, many/2)
	}
}

func TestNoGamepads(t *testing.T) { // 25.1, 'Steps': the session is at its end from the start on
	for _, pads := range [][]uint8{nil, {}} {
		s := sourced(t, ": main drop ;", 100, pads...)
		wantStep(t, s, 5, 0)
		wantRun(t, s, 0, 0)
		wantBack(t, s, 0, 0, fine)
		wantBack(t, s, 1, 0, past)
		wantCount(t, s, 0, 0)
		wantProfile(t, s, 128, 0)
		if x := s.State(); !sameState(x, vm.State{At: 130, Status: running}) {
			t.Errorf("25.6: State() = %v", x)
		}
		for at := range 65536 {
			wantPeek(t, s, uint16(at), 0)
		}
	}
}

func TestRefusedCartridges(t *testing.T) { // 25.1: vm.New's error, and the order of the errors
	many := make([]uint8, 1025)
	for what, c := range carts.Refused() {
		if s, e := debug.New(c, 100, nil); s != nil || e != badCart {
			t.Errorf("25.1: %s: %v, %d", what, s != nil, e)
		}
		if s, e := debug.New(c, 100, many); s != nil || e != badInput {
			t.Errorf("25.1: %s, 1025 gamepads: %v, %d", what, s != nil, e)
		}
		if s, e := debug.New(c, 3, many); s != nil || e != badBudget {
			t.Errorf("25.1: %s, 1025 gamepads, a budget of 3: %v, %d", what, s != nil, e)
		}
		if s, e := debug.New(c, 16385, many[:3]); s != nil || e != badBudget {
			t.Errorf("25.1: %s, a budget of 16385: %v, %d", what, s != nil, e)
		}
	}
	if s, e := debug.New(compiled(t, ": main ;"), 3, many); s != nil || e != badBudget {
		t.Errorf("25.1: 1025 gamepads, a budget of 3: %v, %d", s != nil, e)
	}
}

func TestTakenCartridges(t *testing.T) { // 25.1: all others, accepted or not; at first it stands where vm.New's machine does
	for what, c := range carts.JustTaken() {
		s := debugging(t, c, 100, 7)
		l := lifeOf(t, c, 100, []uint8{7})
		l.wantThere(t, what, s, 0)
		wantStep(t, s, 9, l.end())
		l.wantThere(t, what, s, l.end())
		wantBack(t, s, l.end(), l.end(), fine)
		l.wantThere(t, what, s, 0)
	}
	c := carts.Of(65535, 1, 16) // main's first instruction would lie at 1
	s := debugging(t, c, 100, 7)
	if x := s.State(); x.At != 1 {
		t.Errorf("State() = %v", x)
	}
	wantRun(t, s, 3, 1)
	wantProfile(t, s, 65535, 0)
}

func TestArgumentsAreTheCallers(t *testing.T) { // R3: they are not changed, and what is done to them later changes no session
	src := "3 bank { 1 2 } 9 bank { } : poke dup c@ 1+ swap c! ; : main 3 bank begin 16384 poke pad 49152 c! 9 bank 16384 poke 3 bank yield again ;"
	c, pads := spare.Cart(compiled(t, src)), spare.Given([]uint8{5, 6, 7}, 88)
	l := lifeOf(t, c, 60, pads)
	cartAhead, padsAhead := spare.WholeCart(c), slices.Clone(pads[:cap(pads)])
	s, _ := debug.New(c, 60, pads)
	twin, _ := debug.New(c, 60, pads)
	twin.Step(20)
	twin.Back(11)
	if !reflect.DeepEqual(spare.WholeCart(c), cartAhead) || !slices.Equal(pads[:cap(pads)], padsAhead) {
		t.Error("R3: an argument was changed")
	}
	spare.Over(pads, 200)
	spare.Over(c.Code, 200)
	spare.Over(c.Banks[0].Data, 200)
	spare.Over(c.Banks, api.Bank{Num: 77})
	for _, n := range []int{l.end(), 0, 10, 3, l.end() - 1, 1, l.end()} {
		steps, _ := s.Count()
		s.Step(n - steps)
		s.Back(steps - n)
		l.wantThere(t, "arguments written over", s, n)
	}
	l.wantThere(t, "arguments written over", twin, 9)
}

func TestAnswersAreTheCallers(t *testing.T) { // R3, 25.7: what is done to an answer changes no later one
	c := compiled(t, ": in 3 >r 4 r> drop drop ; : main begin 5 in drop yield again ;")
	s := debugging(t, c, 100, 1, 2)
	l := lifeOf(t, c, 100, []uint8{1, 2})
	for n := range l.end() {
		l.wantThere(t, "answers written over", s, n)
		x := s.State()
		spare.Over(x.Data, 99)
		spare.Over(x.Return, api.Cell{Kind: 9, Value: 99})
		kept := s.Profile()
		spare.Over(s.Profile(), debug.Spent{At: 7, Cycles: 99})
		l.wantThere(t, "answers written over", s, n)
		s.Step(1)
		if ahead := listed(l.moments[n].profile); !slices.Equal(kept, ahead) {
			t.Errorf("R3: a profile that was %v follows later steps: %v", ahead, kept)
		}
		wantBack(t, s, 1, 1, fine)
		l.wantThere(t, "answers written over", s, n)
		s.Step(1)
	}
}

func TestNil(t *testing.T) { // 25.8
	var s *debug.Session
	for at := range 65536 {
		s.Stop(uint16(at), at%2 == 0)
		s.Watch(uint16(at), at%2 == 0)
		wantPeek(t, s, uint16(at), 0)
	}
	for _, n := range []int{math.MinInt, -1, 0, 1, 65537, math.MaxInt} {
		wantStep(t, s, n, 0)
		wantBack(t, s, n, 0, noHandle)
	}
	wantRun(t, s, 0, 0)
	wantCount(t, s, 0, 0)
	wantProfile(t, s)
	if x := s.State(); !sameState(x, vm.State{}) {
		t.Errorf("25.8: State() = %v", x)
	}
}

func TestZeroSession(t *testing.T) { // R1: what it tells is nobody's business, but each call ends, and none panics
	var s debug.Session
	for range 2 {
		s.Stop(5, true)
		s.Stop(6, false)
		s.Watch(5, true)
		s.Watch(6, false)
		s.Step(5)
		s.Run()
		for _, n := range []int{math.MinInt, -1, 0, 1, math.MaxInt} {
			s.Back(n)
		}
		s.State()
		s.Count()
		s.Peek(5)
		s.Profile()
	}
}
