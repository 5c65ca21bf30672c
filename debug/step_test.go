package debug_test

import (
	"math"
	"slices"
	"testing"

	"wisp/api"
	"wisp/carts"
	"wisp/vm"
)

func TestStep(t *testing.T) { // 25.3: at most n, until the session is at its end
	for _, x := range []struct {
		src    string
		pads   int
		steps  int
		frames int
		status api.Status
	}{
		{": main begin yield again ;", 3, 5, 3, running}, // behind the last gamepad
		{": main begin yield again ;", 1, 1, 1, running},
		{": main 1 2 + drop ;", 3, 5, 1, halted}, // behind an exit from main
		{": main yield halt nop ;", 3, 2, 2, halted},
		{": w 1 drop ; : main w w ;", 1, 9, 1, halted},
		{": main 1 2 + + drop ;", 3, 4, 1, faulted}, // behind a fault
		{": main yield yield drop ;", 3, 3, 3, faulted},
	} {
		l := lifeOf(t, compiled(t, x.src), 100, make([]uint8, x.pads))
		for _, by := range []int{1, 2, 3, x.steps, x.steps + 1, 65536, math.MaxInt} {
			s := sourced(t, x.src, 100, make([]uint8, x.pads)...)
			for done := 0; done < x.steps; {
				for _, n := range []int{0, -1, -7, math.MinInt} {
					wantStep(t, s, n, 0)
				}
				wantCount(t, s, done, l.moments[done].frames)
				n := min(by, x.steps-done)
				wantStep(t, s, by, n)
				done += n
			}
			wantCount(t, s, x.steps, x.frames)
			for _, n := range []int{1, 5, math.MaxInt, 0, -1} {
				wantStep(t, s, n, 0)
			}
			wantRun(t, s, 0, x.steps)
			wantCount(t, s, x.steps, x.frames)
			if status := s.State().Status; status != x.status {
				t.Errorf("%s: status %d at the end, want %d", x.src, status, x.status)
			}
		}
	}
}

func TestFramesEnd(t *testing.T) { // 'Steps': where a frame's work ends: the frame of each step, by hand
	for _, x := range []struct {
		what   string
		c      api.Cart
		budget int
		pads   int
		frames []int // of each step
		status api.Status
		fault  api.Fault
	}{
		{"a yield", celled(18, 20, 18, 18, 20, 22), 100, 9, []int{1, 1, 2, 2, 2, 3}, halted, 0},
		{"a yield with the last cycle", celled(18, 18, 18, 20, 18, 22), 4, 9, []int{1, 1, 1, 1, 2, 2}, halted, 0},
		{"a yield behind the last cycle", celled(18, 18, 18, 18, 20, 18, 22), 4, 9, []int{1, 1, 1, 1, 2, 3, 3}, halted, 0},
		{"numbers of 2 cycles, a budget of 5", celled(6, 1, 6, 2, 6, 3, 6, 4, 6, 5, 22), 5, 9, []int{1, 1, 2, 2, 3, 3}, halted, 0},
		{"the same, no third gamepad", celled(6, 1, 6, 2, 6, 3, 6, 4, 6, 5, 22), 5, 2, []int{1, 1, 2, 2}, running, 0},
		{"just enough cycles", celled(6, 1, 6, 2, 6, 3, 6, 4, 22), 4, 9, []int{1, 1, 2, 2, 3}, halted, 0},
		{"just enough for /", celled(6, 9, 6, 2, 48, 18, 22), 8, 9, []int{1, 1, 1, 2, 2}, halted, 0},
		{"one too few for /", celled(6, 9, 6, 2, 48, 18, 22), 7, 9, []int{1, 1, 2, 2, 2}, halted, 0},
		{"one too few for /, no gamepad", celled(6, 9, 6, 2, 48, 18, 22), 7, 1, []int{1, 1}, running, 0},
		{"halt with the last cycle", celled(18, 18, 18, 22), 4, 9, []int{1, 1, 1, 1}, halted, 0},
		{"no cell of the code, one cycle left", celled(18, 18, 18, 18, 20001), 5, 9, []int{1, 1, 1, 1, 1}, faulted, 7},
		{"no cell of the code, none left", celled(18, 18, 18, 18, 20001), 4, 9, []int{1, 1, 1, 1, 2}, faulted, 7},
		{"no cell of the code, none left, no gamepad", celled(18, 18, 18, 18, 20001), 4, 1, []int{1, 1, 1, 1}, running, 0},
		{"no primitive, one cycle left", celled(18, 18, 18, 18, 0), 5, 9, []int{1, 1, 1, 1, 1}, faulted, 6},
		{"no primitive, none left", celled(18, 18, 18, 18, 0), 4, 9, []int{1, 1, 1, 1, 2}, faulted, 6},
		{"no operand, one cycle left", celled(18, 18, 18, 6), 4, 9, []int{1, 1, 1, 1}, faulted, 7},
		{"nothing behind the code", celled(18, 18), 4, 9, []int{1, 1, 1}, faulted, 7},
		{"a yield ahead of what cannot be fetched", celled(18, 20, 20001), 9, 9, []int{1, 1, 2}, faulted, 7},
		{"a fault of a * that costs just enough", celled(18, 46), 4, 9, []int{1, 1}, faulted, 1},
		{"a fault of a * that costs too much", celled(18, 18, 46), 4, 9, []int{1, 1, 2}, faulted, 1},
		{"the same, no gamepad", celled(18, 18, 46), 4, 1, []int{1, 1}, running, 0},
	} {
		pads := make([]uint8, x.pads)
		for i := range pads {
			pads[i] = uint8(50 + i)
		}
		s, l := debugging(t, x.c, x.budget, pads...), lifeOf(t, x.c, x.budget, pads)
		for n, frame := range x.frames {
			wantStep(t, s, 1, 1)
			wantCount(t, s, n+1, frame)
			wantPeek(t, s, 0xff02, pads[frame-1])
			wantPeek(t, s, 0xff08, uint8(frame))
		}
		wantStep(t, s, 1, 0)
		if got := s.State(); got.Status != x.status || got.Fault != x.fault {
			t.Errorf("%s: at the end %v", x.what, got)
		}
		l.wantThere(t, x.what, s, len(x.frames))
		for n := len(x.frames) - 1; n >= 0; n-- {
			wantBack(t, s, 1, 1, fine)
			l.wantThere(t, x.what, s, n)
		}
	}
}

func TestFramesBeginByTheirFirstStep(t *testing.T) { // 'Steps': and no sooner, however the frame ahead has ended
	for _, x := range []struct {
		what   string
		c      api.Cart
		budget int
		steps  int // of the first frame
	}{
		{"a yield", celled(18, 20, 18, 18, 18, 18), 100, 2},
		{"no cycles left", celled(18, 18, 18, 18, 18, 18), 4, 4},
		{"too few cycles left", celled(6, 1, 6, 2, 6, 3), 5, 2},
	} {
		s := debugging(t, x.c, x.budget, 40, 41)
		wantCount(t, s, 0, 0)
		wantPeek(t, s, 0xff02, 0)
		wantPeek(t, s, 0xff08, 0)
		for n := range x.steps {
			wantStep(t, s, 1, 1)
			wantCount(t, s, n+1, 1)
			wantPeek(t, s, 0xff02, 40)
			wantPeek(t, s, 0xff08, 1)
		}
		wantStep(t, s, 1, 1)
		wantCount(t, s, x.steps+1, 2)
		wantPeek(t, s, 0xff02, 41)
		wantPeek(t, s, 0xff08, 2)
		wantBack(t, s, 1, 1, fine)
		wantCount(t, s, x.steps, 1)
		wantPeek(t, s, 0xff02, 40)
		wantPeek(t, s, 0xff08, 1)
		wantBack(t, s, x.steps, x.steps, fine)
		wantCount(t, s, 0, 0)
		wantPeek(t, s, 0xff02, 0)
		wantPeek(t, s, 0xff08, 0)
	}
}

func TestMostSteps(t *testing.T) { // 'Steps': 65536 steps and no more; 25.4 from there
	s := sourced(t, ": main begin 1 32768 +! again ;", 16384, make([]uint8, 100)...)
	wantStep(t, s, mostSteps-1, mostSteps-1)
	wantStep(t, s, math.MaxInt, 1)
	// each turn is 4 steps and 9 cycles: 1820 turns to a frame, and then lit and lit of the next one
	count := func(steps, turns int) {
		t.Helper()
		if n, _ := s.Count(); n != steps {
			t.Fatalf("25.6: %d steps, want %d", n, steps)
		}
		wantPeek(t, s, 32768, uint8(turns))
		wantPeek(t, s, 32769, uint8(turns/256))
	}
	count(mostSteps, mostSteps/4)
	end := s.State()
	_, frames := s.Count()
	profile := s.Profile()
	if end.Status != running {
		t.Fatalf("25.6: State() = %v", end)
	}
	wantStep(t, s, 1, 0)
	wantRun(t, s, 0, mostSteps)
	wantBack(t, s, mostSteps+1, 0, past)
	wantBack(t, s, 1, 1, fine)
	count(mostSteps-1, mostSteps/4)
	wantStep(t, s, 9, 1)
	wantBack(t, s, 6, 6, fine)
	count(mostSteps-6, mostSteps/4-2)
	wantRun(t, s, 0, mostSteps)
	count(mostSteps, mostSteps/4)
	wantBack(t, s, mostSteps, mostSteps, fine)
	count(0, 0)
	wantCount(t, s, 0, 0)
	wantProfile(t, s, 128, 0)
	if x := s.State(); !sameState(x, vm.State{At: 130, Status: running}) {
		t.Errorf("25.9: State() = %v", x)
	}
	wantBack(t, s, 1, 0, past)
	wantRun(t, s, 0, mostSteps)
	count(mostSteps, mostSteps/4)
	wantCount(t, s, mostSteps, frames)
	if x := s.State(); !sameState(x, end) || !slices.Equal(s.Profile(), profile) {
		t.Errorf("25.9: State() = %v, Profile() = %v, want %v, %v", x, s.Profile(), end, profile)
	}
}

func TestMostStepsAtAFramesBeginning(t *testing.T) { // 'Steps': the frame behind the last step is not begun
	s := debugging(t, carts.Of(128, 1, 8, 130), 16384, make([]uint8, 9)...) // a branch to itself: 8192 steps to a frame
	wantStep(t, s, math.MaxInt, mostSteps)
	wantCount(t, s, mostSteps, 8)
	wantPeek(t, s, 0xff08, 8)
	wantProfile(t, s, 128, 2*mostSteps)
	wantBack(t, s, 8192, 8192, fine)
	wantCount(t, s, mostSteps-8192, 7)
	wantPeek(t, s, 0xff08, 7)
	wantStep(t, s, 1, 1)
	wantCount(t, s, mostSteps-8191, 8)
}
