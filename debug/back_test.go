package debug_test

import (
	"fmt"
	"math"
	"testing"

	"wisp/api"
)

// forthAndBack goes through a whole life from its end back by each number of steps and forth again, and then back from each moment to the beginning.
func forthAndBack(t *testing.T, what string, c api.Cart, budget int, pads ...uint8) {
	t.Helper()
	l, s := lifeOf(t, c, budget, pads), debugging(t, c, budget, pads...)
	end := l.end()
	wantStep(t, s, math.MaxInt, end)
	l.wantThere(t, what, s, end)
	for n := range end + 1 {
		wantBack(t, s, n, n, fine)
		l.wantThere(t, what, s, end-n)
		wantStep(t, s, n, n)
	}
	l.wantThere(t, what, s, end)
	for n := range end {
		wantBack(t, s, end-n, end-n, fine)
		wantStep(t, s, end-n-1, end-n-1)
		l.wantThere(t, what, s, end-n-1)
	}
}

func TestBackErrors(t *testing.T) { // 25.4: and nothing has changed
	c := compiled(t, ": w 3 + ; : main begin pad w 32768 c! yield again ;")
	l, s := lifeOf(t, c, 9, []uint8{5, 6, 7}), debugging(t, c, 9, 5, 6, 7)
	for done := range l.end() + 1 {
		for _, n := range []int{-1, -2, -done - 1, math.MinInt32, math.MinInt} {
			wantBack(t, s, n, 0, badInput)
		}
		for _, n := range []int{done + 1, done + 2, 2*done + 1, 65536, 65537, math.MaxInt32, math.MaxInt} {
			wantBack(t, s, n, 0, past)
		}
		wantBack(t, s, 0, 0, fine)
		l.wantThere(t, "behind calls of Back with errors", s, done)
		s.Step(1)
	}
}

func TestBackOverWrites(t *testing.T) { // 25.4, 25.9: memory of each kind, at each address at which something begins or ends
	for _, at := range corners {
		src := fmt.Sprintf("0 bank { 11 12 } 3 bank { 13 } : main 9 %[1]d ! 1027 %[1]d ! 51458 %[1]d +! 77 %[1]d c! 78 %[1]d c! 515 %[1]d ! yield 78 %[1]d c! ;", at)
		forthAndBack(t, src, compiled(t, src), 100, 5, 6)
		forthAndBack(t, src, compiled(t, src), 7, 5, 6, 7, 8)
	}
}

func TestBackOverPlots(t *testing.T) { // 25.4: in the screen and beyond it
	for _, x := range []string{"0 0", "63 47", "63 0", "0 47", "5 7", "64 0", "0 48", "64 47", "63 48", "65535 0", "0 65535", "1024 1", "65472 1"} {
		src := ": main " + x + " 300 plot " + x + " 7 plot " + x + " 0 plot ;"
		forthAndBack(t, src, compiled(t, src), 100, 5)
	}
}

func TestBackOverTones(t *testing.T) { // 25.4: pitch and volume, in one frame and over the beginning of another
	for _, src := range []string{
		": main 440 9 tone 441 9 tone 441 10 tone yield 442 11 tone yield 443 12 tone ;",
		": main 440 9 tone 8 65286 c! 65286 @ 65286 ! 500 65284 ! 65285 c@ 65284 +! 7 65285 ! yield 6 65285 +! 700 13 tone ;",
		": main begin pad 1+ pad tone yield again ;",
	} {
		forthAndBack(t, src, compiled(t, src), 100, 5, 6, 7)
		forthAndBack(t, src, compiled(t, src), 5, 5, 6, 7, 8, 9)
	}
}

func TestBackOverBanks(t *testing.T) { // 25.4: what was written to a bank that is not chosen any more
	for _, src := range []string{
		"0 bank { 1 } 3 bank { 2 } : main 5 16384 c! 3 bank 6 16384 c! 7 32767 c! 0 bank 8 16384 c! 9 bank 10 16384 c! 19 bank 65280 c@ drop 11 16384 ! 0 65280 c! 16384 c@ drop ;",
		"1 bank { 1 } : main begin pad bank pad 16384 c! 16384 @ 1+ 16384 ! yield again ;",
	} {
		forthAndBack(t, src, compiled(t, src), 100, 1, 0, 1)
		forthAndBack(t, src, compiled(t, src), 7, 1, 17, 2, 33, 0)
	}
}

func TestBackOverControl(t *testing.T) { // 25.4: calls, exits, loops, branches, constants, and what stands on the return stack
	for _, src := range []string{
		"7 constant k variable v : in k v +! ; : w in in dup if exit then in ; : main 0 w 1 w ;",
		": w 3 0 do i j + drop 2 0 do j drop loop loop ; : main 2 0 do w loop ;",
		": w >r r@ yield r> ; : main 1 2 3 w begin dup while 1- repeat 2drop drop halt ;",
		": w begin dup 1- dup 0= until drop drop ; : main 3 w 1 if 2 else 3 then drop ;",
	} {
		forthAndBack(t, src, compiled(t, src), 30, 5, 6, 7)
		forthAndBack(t, src, compiled(t, src), 4, 5, 6, 7, 8, 9, 10, 11)
	}
}

func TestBackOverAllPrimitives(t *testing.T) { // 25.4: each of those that have a name, with cells of which none is there twice
	for op := uint16(9); op < 64; op++ {
		c := celled(6, 0x8001, 6, 0x8123, 6, 0x8004, 6, 5, 110, 6, 3, 6, 2, 12, 6, 40, 6, 41, 12, 6, 0x9321, 2*op, 18, 2*op, 18, 22)
		if op == 55 || op == 56 || op == 57 { // what >r and its like look at
			c = celled(6, 1, 6, 2, 110, 2*op, 18, 2*op, 22)
		}
		forthAndBack(t, fmt.Sprint("primitive ", op), c, 20, 3, 4, 5)
	}
}

func TestBackOverFaults(t *testing.T) { // 25.4: it runs again, and faults again; a frame that was begun by the fault is not begun
	for fault, c := range map[api.Fault]api.Cart{
		1: celled(6, 1, 18, 42),
		2: celled(6, 1, 24, 8, 134),
		3: celled(6, 1, 112),
		4: celled(6, 1, 128),
		5: celled(6, 1, 110, 16),
		6: celled(6, 1, 0),
		7: celled(6, 1, 1001),
	} {
		for _, budget := range []int{4, 5, 2000} {
			pads := []uint8{1, 2, 3, 4, 5, 6, 7, 8, 9}
			if fault == 2 || fault == 4 {
				pads, budget = pads[:2], 2000
			}
			l, s := lifeOf(t, c, budget, pads), debugging(t, c, budget, pads...)
			end := l.end()
			wantStep(t, s, math.MaxInt, end)
			for range 2 {
				l.wantThere(t, "a fault", s, end)
				if x := s.State(); x.Status != faulted || x.Fault != fault {
					t.Fatalf("25.6: State() = %v, want the fault %d", x, fault)
				}
				wantStep(t, s, 1, 0)
				wantBack(t, s, 1, 1, fine)
				l.wantThere(t, "back over a fault", s, end-1)
				wantStep(t, s, 2, 1)
			}
			wantBack(t, s, end, end, fine)
			l.wantThere(t, "back over all", s, 0)
			wantRun(t, s, 3, end)
		}
	}
}

func TestBackOverFrames(t *testing.T) { // 25.4: the gamepad and the time of the frame ahead; of none, 0
	for _, budget := range []int{4, 5, 6, 7, 100} {
		forthAndBack(t, "frames", compiled(t, ": main begin pad 65282 @ 65288 @ 2drop drop yield again ;"), budget, 255, 0, 255, 7)
	}
	s := sourced(t, ": main begin yield again ;", 4, make([]uint8, 700)...)
	wantStep(t, s, 1201, 1201) // 601 frames
	wantPeek(t, s, 65288, 601%256)
	wantPeek(t, s, 65289, 601/256)
	wantBack(t, s, 400, 400, fine) // in the 401st
	wantCount(t, s, 801, 401)
	wantPeek(t, s, 65288, 401%256)
	wantPeek(t, s, 65289, 401/256)
}

func TestBackToFullStacks(t *testing.T) { // 25.4: 256 cells and 128 cells
	c := celled(6, 7, 24, 8, 134) // dup, and back to it, up to the fault
	l, s := lifeOf(t, c, 2000, []uint8{1}), debugging(t, c, 2000, 1)
	end := l.end()
	wantStep(t, s, end, end)
	for _, n := range []int{1, 2, 3, 100, 255, end - 5} {
		wantBack(t, s, n, n, fine)
		l.wantThere(t, "a full data stack", s, end-n)
		wantStep(t, s, n, n)
		l.wantThere(t, "a full data stack", s, end)
	}
	s = sourced(t, ": w 2drop 2drop 2drop ; : main 1 2 3 4 5 6 w ;", 100, 1)
	wantStep(t, s, 10, 10)
	wantBack(t, s, 3, 3, fine)
	if x := s.State().Data; fmt.Sprint(x) != "[1 2 3 4 5 6]" {
		t.Errorf("25.9: the data stack is %v", x)
	}
}
