package debug_test

import (
	"testing"

	"wisp/carts"
)

func TestRunToTheEnd(t *testing.T) { // 25.5: 0, also at once
	for _, x := range []struct {
		src   string
		pads  int
		steps int
	}{
		{": main begin yield again ;", 0, 0},
		{": main begin yield again ;", 4, 7},
		{": main 1 drop ;", 2, 3},
		{": main 1 drop halt ;", 2, 3},
	} {
		s := sourced(t, x.src, 100, make([]uint8, x.pads)...)
		wantRun(t, s, 0, x.steps)
		wantRun(t, s, 0, x.steps)
		wantBack(t, s, x.steps, x.steps, fine)
		wantRun(t, s, 0, x.steps)
	}
}

func TestRunToAFault(t *testing.T) { // 25.5: 3, once; ahead of a watch and of a stop
	for _, src := range []string{": main 1 drop drop ;", ": main 1 yield drop drop ;"} {
		c := compiled(t, src)
		l, s := lifeOf(t, c, 100, []uint8{7, 8, 9}), debugging(t, c, 100, 7, 8, 9)
		s.Stop(l.moments[l.end()].state.At, true) // where it faults: it stands there ahead of the fault too
		wantRun(t, s, 1, l.end()-1)
		wantRun(t, s, 3, l.end())
		wantRun(t, s, 0, l.end())
	}
	s := sourced(t, ": main yield drop ;", 100, 7, 8)
	s.Watch(65282, true)
	wantRun(t, s, 2, 1) // the gamepad 7
	wantRun(t, s, 3, 2) // the gamepad 8 and the fault
	wantRun(t, s, 0, 2)
	wantBack(t, s, 1, 1, fine)
	wantRun(t, s, 3, 2)
}

func TestStops(t *testing.T) { // 25.2, 25.5: on, off, the same twice
	src := ": w nop nop ; : main begin w again ;" // w at 128: nop 130, nop 132, exit 134; main at 136: enter 138, branch 140
	s := sourced(t, src, 100, 1)
	s.Stop(132, true)
	wantRun(t, s, 1, 2)
	wantRun(t, s, 1, 7) // it is not looked for ahead of a step
	s.Stop(132, true)
	wantRun(t, s, 1, 12)
	s.Stop(138, true)
	wantRun(t, s, 1, 15)
	wantRun(t, s, 1, 17)
	s.Stop(132, false)
	wantRun(t, s, 1, 20)
	s.Stop(132, false)
	wantRun(t, s, 1, 25)
	s.Stop(138, false)
	s.Stop(134, true)
	wantRun(t, s, 1, 28)
	wantBack(t, s, 28, 28, fine)
	wantRun(t, s, 1, 3) // stops stay
	s.Stop(134, false)
	wantRun(t, s, 0, 63) // a turn is 5 steps and 8 cycles: 12 turns, and up to the second nop
}

func TestStopsAnywhere(t *testing.T) { // 25.2: any address may be
	s := sourced(t, ": main begin nop yield again ;", 100, 1, 2, 3)
	for at := range 65536 {
		if at != 132 {
			s.Stop(uint16(at), true)
		}
	}
	for _, steps := range []int{2, 3, 5, 6, 8} {
		wantRun(t, s, 1, steps)
	}
	wantRun(t, s, 0, 8)
	wantBack(t, s, 8, 8, fine)
	for at := range 65536 {
		s.Stop(uint16(at), at == 65535)
	}
	wantRun(t, s, 0, 8)
	// a machine that stands beyond its code, at an odd address, at 0
	for _, x := range []struct{ operand, at uint16 }{{1001, 1001}, {0, 0}, {65535, 65535}, {65534, 65534}} {
		s := debugging(t, carts.Of(128, 1, 8, x.operand), 100, 1)
		s.Stop(x.at, true)
		wantRun(t, s, 1, 1)
		wantRun(t, s, 3, 2)
	}
}

func TestMarksAmongOthers(t *testing.T) { // 25.2: one that is taken away is that one alone, whichever others there are
	src := ": main 1 drop nop nop nop nop nop nop ;" // from the drop at 134 on a step is 2 bytes
	stops := []uint16{134, 136, 138, 140, 142, 144, 146}
	for _, taken := range stops {
		s := sourced(t, src, 100, 1)
		for _, at := range []uint16{140, 134, 146, 136, 144, 138, 142, 140} {
			s.Stop(at, true)
			s.Watch(at, true)
		}
		s.Stop(taken, false)
		s.Stop(taken+1, false)
		for n, at := range stops {
			if at != taken {
				wantRun(t, s, 1, n+1)
			}
		}
	}
	src = ": main 258 32768 ! 772 32770 ! 1286 32772 ! ;"
	for taken := uint16(32768); taken < 32774; taken++ {
		s := sourced(t, src, 100, 1)
		for _, at := range []uint16{32773, 32768, 32771, 32769, 32772, 32770} {
			s.Watch(at, at == taken)
			s.Stop(at, true)
		}
		wantRun(t, s, 2, 3+3*(int(taken-32768)/2))
		wantBack(t, s, 1, 1, fine)
		s.Watch(taken, false)
		wantRun(t, s, 0, 10)
	}
}

func TestStopsOfARunningMachine(t *testing.T) { // 25.5: 1 just if it is Running
	for _, src := range []string{": main nop halt nop ;", ": main nop ;"} {
		s := sourced(t, src, 100, 1)
		s.Stop(134, true) // behind halt, or behind exit
		wantRun(t, s, 0, 2)
		if x := s.State(); x.Status != halted || x.At != 134 {
			t.Fatalf("25.6: %s: State() = %v", src, x)
		}
	}
}

func TestStopAtTheEnd(t *testing.T) { // 25.5: 1 comes ahead of 0
	s := sourced(t, ": main begin yield again ;", 100, 1)
	s.Stop(132, true)
	wantRun(t, s, 1, 1)
	wantRun(t, s, 0, 1)
	s = debugging(t, carts.Of(128, 1, 8, 130), 16384, make([]uint8, 9)...)
	wantStep(t, s, 65535, 65535)
	s.Stop(130, true)
	wantRun(t, s, 1, mostSteps)
	wantRun(t, s, 0, mostSteps)
}

func TestWatches(t *testing.T) { // 25.2, 25.5: on, off, the same twice; another byte just if it is another
	src := ": main begin 1 32768 +! 0 32768 +! 32768 c@ 32768 c! yield again ;" // steps 3, 6, 10, 11; then 12 a turn
	s := sourced(t, src, 100, 9, 9, 9, 9, 9)
	s.Watch(32768, true)
	wantRun(t, s, 2, 3)
	s.Watch(32768, true)
	wantRun(t, s, 2, 15)
	s.Watch(32769, true)
	wantRun(t, s, 2, 27)
	s.Watch(32768, false)
	wantRun(t, s, 0, 59)
	wantBack(t, s, 59, 59, fine)
	s.Watch(32768, true)
	wantRun(t, s, 2, 3) // watches stay
	s.Watch(32768, false)
	s.Watch(32768, false)
	wantRun(t, s, 0, 59)
}

func TestWatchesBesideAWrite(t *testing.T) { // 25.5: just the bytes that are written: one, or two
	for _, x := range []struct {
		src    string
		writes []uint16
	}{
		{": main 258 33000 ! ;", []uint16{33000, 33001}},
		{": main 258 33000 +! ;", []uint16{33000, 33001}},
		{": main 258 33000 c! ;", []uint16{33000}},
		{": main 256 33000 ! ;", []uint16{33001}},
		{": main 2 33000 ! ;", []uint16{33000}},
		{": main 258 49151 ! ;", []uint16{49151, 49152}},
		{": main 258 52223 ! ;", []uint16{52223}},
		{": main 0 16383 ! 258 16383 ! ;", []uint16{16384}},
		{": main 258 32767 ! ;", []uint16{32767, 32768}},
		{": main 63 47 5 plot ;", []uint16{52223}},
		{": main 64 47 5 plot 63 48 5 plot ;", nil},
		{": main 440 9 tone ;", []uint16{65284, 65285, 65286}},
		{": main 258 65284 ! ;", []uint16{65284, 65285}},
		{": main 258 65285 ! ;", []uint16{65285, 65286}},
		{": main 258 65281 ! 258 65282 ! 258 65287 ! 258 65288 ! 258 65289 ! 258 65535 ! 258 5 ! ;", nil},
	} {
		src := "0 bank { } " + x.src
		for _, at := range append(corners, 33000, 33001, 33002, 49152) {
			s := sourced(t, src, 200, 0)
			s.Step(1) // the frame is begun
			s.Watch(at, true)
			want := 0
			for _, w := range x.writes {
				if w == at {
					want = 2
				}
			}
			if got := s.Run(); got != want {
				t.Errorf("25.5: %s: a watch at %d: %d, want %d", src, at, got, want)
			}
		}
	}
}

func TestWatchesOnTheWindow(t *testing.T) { // 25.5: another bank that is chosen is another byte, if it is one
	src := "0 bank { 5 6 } 3 bank { 5 7 } : main 3 bank 19 bank 1 bank 0 bank 16 65280 c! 768 65279 ! 7 65280 ! 2 65280 +! 1 65280 +! ;"
	steps := []int{2, 4, 6, 8, 11, 14, 17, 20, 23}
	for _, x := range []struct {
		at   uint16
		runs []int // which of the steps are told
	}{
		{16384, []int{2, 3, 6}},
		{16385, []int{0, 2, 3, 5, 6}},
		{16386, nil},
		{32767, nil},
		{32768, nil},
		{65280, []int{0, 2, 3, 5, 6, 7, 8}},
		{65281, nil},
	} {
		s := sourced(t, src, 200, 0)
		s.Watch(x.at, true)
		for _, n := range x.runs {
			wantRun(t, s, 2, steps[n])
		}
		wantRun(t, s, 0, 24)
	}
}

func TestWatchesAtAFramesBeginning(t *testing.T) { // 25.5: the gamepad and the time are another one by the frame's first step
	src := ": main begin yield again ;"
	for _, x := range []struct {
		at   uint16
		runs []int
	}{
		{65282, []int{4, 8}},          // 0 4 4 4 0 .. : the first frame has the gamepad 0, as before
		{65288, []int{1, 2, 4, 6, 8}}, // the time's low byte
		{65289, nil},                  // its high byte
		{65283, nil},
	} {
		s := sourced(t, src, 100, 0, 0, 4, 4, 0)
		s.Watch(x.at, true)
		for _, steps := range x.runs {
			wantRun(t, s, 2, steps)
		}
		wantRun(t, s, 0, 9)
	}
	s := sourced(t, src, 100, make([]uint8, 300)...)
	s.Watch(65289, true)
	wantRun(t, s, 2, 2*256-2) // the branch of the 256th frame
	wantCount(t, s, 510, 256)
	wantRun(t, s, 0, 599)
}

func TestWatchAheadOfStop(t *testing.T) { // 25.5: 2 comes ahead of 1, and of 0
	src := ": main begin 1 32768 +! again ;" // lit, lit, +! at 138, branch at 140
	s := sourced(t, src, 7, 1)
	s.Watch(32768, true)
	s.Stop(140, true)
	s.Stop(138, true)
	wantRun(t, s, 1, 2)
	wantRun(t, s, 2, 3) // and it stands at a stop, and at the end
	wantRun(t, s, 0, 3)
	wantBack(t, s, 3, 3, fine)
	s.Watch(32768, false)
	wantRun(t, s, 1, 2)
	wantRun(t, s, 1, 3)
	wantRun(t, s, 0, 3)
}

func TestAllWatches(t *testing.T) { // 25.2: any address may be
	c := compiled(t, "1 bank { 5 } : main begin pad 32768 c! pad 49152 c! pad bank 7 16384 c! pad 9 tone 5 0 ! yield again ;")
	pads := []uint8{0, 1, 1, 0, 2}
	l, s := lifeOf(t, c, 60, pads), debugging(t, c, 60, pads...)
	watches := map[uint16]bool{}
	for at := range 65536 {
		s.Watch(uint16(65535-at), true)
		watches[uint16(at)] = true
	}
	for n, told := 0, 0; n < l.end(); {
		why, steps := l.run(n, nil, watches)
		wantRun(t, s, why, steps)
		l.wantThere(t, "all watches", s, steps)
		if n = steps; n == l.end() && told < 10 {
			t.Errorf("only %d watches told something", told)
		}
		told++
	}
	for at := range 65536 {
		s.Watch(uint16(at), false)
	}
	wantBack(t, s, l.end(), l.end(), fine)
	wantRun(t, s, 0, l.end())
}

func TestMarksAreASessionsOwn(t *testing.T) { // 'two sessions know nothing of one another'
	c := compiled(t, ": main begin 1 32768 +! again ;")
	one, two := debugging(t, c, 100, 1), debugging(t, c, 100, 1)
	one.Stop(138, true)
	two.Watch(32768, true)
	wantRun(t, one, 1, 2)
	wantRun(t, two, 2, 3)
	one.Stop(138, false)
	two.Stop(130, true)
	wantRun(t, two, 1, 4)
	wantRun(t, one, 0, 44)
}

func TestStopsAndWatchesChangeNoStep(t *testing.T) { // 25.3, 25.4: they are Run's alone
	c := compiled(t, ": main begin 1 32768 +! again ;")
	pads := []uint8{1, 2, 3}
	l, s := lifeOf(t, c, 20, pads), debugging(t, c, 20, pads...)
	for at := range 65536 {
		s.Stop(uint16(at), true)
		s.Watch(uint16(at), true)
	}
	wantStep(t, s, 99, l.end())
	wantBack(t, s, 7, 7, fine)
	l.wantThere(t, "stops and watches everywhere", s, l.end()-7)
}
