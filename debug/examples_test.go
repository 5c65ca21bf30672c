package debug_test

import (
	"testing"

	"wisp/debug"
)

func TestExample1(t *testing.T) {
	s := sourced(t, ": main begin yield again ;", 100, 1, 2, 3)
	wantCount(t, s, 0, 0)
	wantStep(t, s, 1, 1)
	wantCount(t, s, 1, 1)
	wantStep(t, s, 1, 1)
	wantCount(t, s, 2, 2)
	wantPeek(t, s, 65282, 2)
	wantStep(t, s, 9, 3)
	wantCount(t, s, 5, 3)
	wantBack(t, s, 4, 4, fine)
	wantCount(t, s, 1, 1)
	wantPeek(t, s, 65282, 1)
	wantBack(t, s, 2, 0, past)
	wantCount(t, s, 1, 1)
}

func TestExample2(t *testing.T) {
	s := sourced(t, ": main drop ;", 100, 0)
	wantStep(t, s, 5, 1)
	if x := s.State(); x.Status != faulted || x.Fault != 1 || x.At != 130 {
		t.Errorf("State() = %v", x)
	}
	wantRun(t, s, 0, 1)
	wantBack(t, s, 1, 1, fine)
	if x := s.State(); x.Status != running || x.Fault != 0 || x.At != 130 {
		t.Errorf("State() = %v", x)
	}
	wantRun(t, s, 3, 1)
}

func TestExample3(t *testing.T) { // sq lies at 128, main behind it at 136
	s := sourced(t, ": sq dup * ; : main 5 sq drop ;", 100, 0)
	wantStep(t, s, 9, 7)
	wantProfile(t, s, 128, 6, 136, 7)
	s = sourced(t, ": sq dup * ; : main 5 sq drop ;", 100, 0)
	s.Stop(130, true)
	wantRun(t, s, 1, 2)
	wantProfile(t, s, 128, 0, 136, 4)
	wantRun(t, s, 0, 7)
	wantProfile(t, s, 128, 6, 136, 7)
}

func TestExample4(t *testing.T) {
	s := sourced(t, ": main 7 $8000 ! ;", 100, 0)
	s.Watch(32768, true)
	wantRun(t, s, 2, 3)
	wantPeek(t, s, 32768, 7)
	wantRun(t, s, 0, 4)
	if x := s.State(); x.Status != halted {
		t.Errorf("State() = %v", x)
	}
}

func TestExample5(t *testing.T) {
	c := compiled(t, ": main ;")
	if s, e := debug.New(c, 3, nil); s != nil || e != badBudget {
		t.Errorf("a budget of 3: %d", e)
	}
	if s, e := debug.New(c, 100, make([]uint8, 1025)); s != nil || e != badInput {
		t.Errorf("1025 gamepads: %d", e)
	}
}
