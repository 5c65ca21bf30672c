package debug_test

import (
	"math"
	"testing"

	"wisp/carts"
)

func TestProfileAheadOfAnyStep(t *testing.T) { // 25.7: main with 0, wherever it lies
	wantProfile(t, sourced(t, ": main ;", 100), 128, 0)
	wantProfile(t, sourced(t, ": a ; : b a ; : main b ;", 100, 1), 138, 0)
	wantProfile(t, debugging(t, carts.Of(4321), 100, 1), 4321, 0)
}

func TestProfileWordByWord(t *testing.T) { // 25.7: enter belongs to the word that calls, exit to the word that it leads out of
	// a at 128: dup, drop, exit; b at 136: enter, lit, drop, enter, exit; main at 150: lit, enter, drop, exit
	s := sourced(t, ": a dup drop ; : b a 7 drop a ; : main 5 b drop ;", 100, 0)
	for n, want := range [][]int{
		{150, 2},                 // lit
		{136, 0, 150, 4},         // enter: b has been begun, and has spent nothing
		{128, 0, 136, 2, 150, 4}, // enter
		{128, 1, 136, 2, 150, 4},
		{128, 2, 136, 2, 150, 4},
		{128, 4, 136, 2, 150, 4}, // exit
		{128, 4, 136, 4, 150, 4}, // lit
		{128, 4, 136, 5, 150, 4}, // drop
		{128, 4, 136, 7, 150, 4}, // enter, again
		{128, 5, 136, 7, 150, 4},
		{128, 6, 136, 7, 150, 4},
		{128, 8, 136, 7, 150, 4},
		{128, 8, 136, 9, 150, 4}, // exit
		{128, 8, 136, 9, 150, 5},
		{128, 8, 136, 9, 150, 7}, // exit from main
	} {
		wantStep(t, s, 1, 1)
		wantProfile(t, s, want...)
		wantBack(t, s, 1, 1, fine)
		wantStep(t, s, 1, 1)
		wantProfile(t, s, want...)
		wantCount(t, s, n+1, 1)
	}
	wantStep(t, s, 1, 0)
	wantBack(t, s, 13, 13, fine)
	wantProfile(t, s, 136, 0, 150, 4) // a has not been begun any more
	wantBack(t, s, 1, 1, fine)
	wantProfile(t, s, 150, 2)
	wantBack(t, s, 1, 1, fine)
	wantProfile(t, s, 150, 0)
}

func TestProfileOfWhatIsNotReached(t *testing.T) { // 25.7: a word that has not been begun is not there
	s := sourced(t, ": no 1 drop ; : yes ; : main 0 if no then yes halt no ;", 100, 0)
	wantStep(t, s, math.MaxInt, 5)
	wantProfile(t, s, 138, 2, 142, 2+2+2+1)
}

func TestProfileOfWordsThatCallThemselves(t *testing.T) { // 25.7: one word, however often it has been begun
	s := debugging(t, carts.Of(128, 1, 18, 128), 2000, 0) // main: nop, main
	wantStep(t, s, 3, 3)
	wantProfile(t, s, 128, 4)
	wantStep(t, s, math.MaxInt, 2*128+2-3) // 128 calls, then a nop and the fault of the call
	wantProfile(t, s, 128, 3*128+1)
	wantBack(t, s, 2*128, 2*128, fine)
	wantProfile(t, s, 128, 3)
	wantBack(t, s, 2, 2, fine)
	wantProfile(t, s, 128, 0)

	// w at 128: 32768 c@ 1- dup 32768 c! if w then; main at 154: 3 32768 c! w
	s = debugging(t, carts.Of(154, 1, 6, 32768, 104, 66, 24, 6, 32768, 106, 10, 152, 128, 16, 1, 6, 3, 6, 32768, 106, 128, 16), 2000, 0)
	s.Stop(130, true)
	for n, steps := range []int{4, 12, 20} {
		wantRun(t, s, 1, steps)
		wantProfile(t, s, 128, n*14, 154, 8)
	}
	wantRun(t, s, 0, 20+7+3+1)
	wantProfile(t, s, 128, 2*14+12+3*2, 154, 8+2)
}

func TestProfileOfBranchesOutOfAWord(t *testing.T) { // 25.7: whatever an address belongs to in a source, it is what was called that spends
	// main at 128: w at 136, then nop, exit; w: branch to 132
	s := debugging(t, carts.Of(128, 1, 136, 18, 16, 1, 8, 132), 100, 0)
	wantStep(t, s, 4, 4) // w, branch, nop, exit: out of w, to 132
	wantProfile(t, s, 128, 2, 136, 2+1+2)
	wantStep(t, s, 9, 2)
	wantProfile(t, s, 128, 2+1+2, 136, 2+1+2)
}

func TestProfileOfFaults(t *testing.T) { // 25.7, 25.11: they cost nothing
	s := sourced(t, ": w drop ; : main 1 drop w ;", 100, 0)
	wantStep(t, s, 9, 4)
	wantProfile(t, s, 128, 0, 134, 2+1+2)
	wantBack(t, s, 1, 1, fine)
	wantProfile(t, s, 128, 0, 134, 2+1+2)
	wantBack(t, s, 1, 1, fine)
	wantProfile(t, s, 134, 2+1)
	// a call that does not come about: nothing is begun
	cells := []uint16{1}
	for range 128 {
		cells = append(cells, 6, 1, 110)
	}
	at := uint16(128 + 2*len(cells) + 2)
	cells = append(cells, at, 1, 16)
	s = debugging(t, carts.Of(128, cells...), 2000, 0)
	wantStep(t, s, math.MaxInt, 2*128+1)
	if x := s.State(); x.Status != faulted || x.Fault != 4 || len(x.Return) != 128 {
		t.Fatalf("25.6: State() = %v", x)
	}
	wantProfile(t, s, 128, 3*128)
}

func TestProfileOverFrames(t *testing.T) { // 25.7: a word goes on in the next frame; what is idle is nobody's
	s := sourced(t, ": w 1 yield drop ; : main w 3 4 / drop ;", 6, 0, 0, 0, 0)
	wantStep(t, s, math.MaxInt, 10)
	wantCount(t, s, 10, 4) // 1, 1 and 0 cycles of the first three are idle
	wantProfile(t, s, 128, 2+1+1+2, 140, 2+2+2+4+1+2)
	wantBack(t, s, 8, 8, fine)
	wantProfile(t, s, 128, 2, 140, 2)
}
