package debug

import (
	"slices"
	"testing"

	"wisp/api"
	"wisp/cart"
	"wisp/comp"
	"wisp/vm"
)

// No call tells a session's tones: they are looked at inside.

func sounding(t *testing.T, src string, budget int, pads []uint8) (*Session, api.Cart) {
	t.Helper()
	b, at, e := comp.Compile(src)
	if e != api.OK {
		t.Fatalf("the tests' own %s: %d at %v", src, e, at)
	}
	c, _ := cart.Decode(b)
	s, e := New(c, budget, pads)
	if e != api.OK {
		t.Fatalf("New: %d", e)
	}
	return s, c
}

func TestTonesAreUndone(t *testing.T) { // 25.4: as they were, and with the cycles that they had
	pads := []uint8{3, 4, 5, 6}
	for _, src := range []string{
		": main begin pad 9 tone 8 65286 c! 1025 65286 ! 513 65285 ! 5 65284 ! 1 65285 +! 1 65286 +! yield again ;",
		": main begin pad 9 tone again ;",
		": main begin 6 252 9 plot 5 252 9 plot pad 9 tone 6 252 8 plot yield again ;", // 64 * 252 behind the screen's beginning lie the ports
		": p 65286 c! ; : main begin 1 p 2 p yield 3 p yield yield again ;",
	} {
		for _, budget := range []int{4, 9, 30, 60, 200} {
			forth, _ := sounding(t, src, budget, pads)
			var tones [][]api.Tone
			for forth.Step(1) == 1 {
				tones = append(tones, forth.machine.Memory().Tones())
			}
			s, c := sounding(t, src, budget, pads)
			s.Step(len(tones))
			for n := len(tones); n > 0; n-- {
				wantTones(t, s, tones[n-1])
				if k, e := s.Back(1); k != 1 || e != api.OK {
					t.Fatalf("25.4: Back(1) = %d, %d", k, e)
				}
			}
			wantTones(t, s, nil)
			for n := range tones {
				s.Step(1)
				wantTones(t, s, tones[n])
				ahead := min(n, 5)
				s.Back(ahead)
				wantTones(t, s, tones[n-ahead])
				s.Step(ahead)
				wantTones(t, s, tones[n])
			}
			wantTones(t, s, playedTones(t, c, budget, pads))
		}
	}
}

func wantTones(t *testing.T, s *Session, want []api.Tone) {
	t.Helper()
	if got := s.machine.Memory().Tones(); !slices.Equal(got, want) || !slices.Equal(s.tones, want) {
		t.Fatalf("25.4: behind %d steps the tones are %v, kept as %v, want %v", len(s.undo), got, s.tones, want)
	}
}

// playedTones are those of the last frame, as vm plays them.
func playedTones(t *testing.T, c api.Cart, budget int, pads []uint8) []api.Tone {
	t.Helper()
	m, e := vm.New(c)
	if e != api.OK {
		t.Fatal(e)
	}
	var o api.Out
	for _, pad := range pads {
		o, _ = m.Frame(pad, budget)
	}
	return o.Tones
}

func TestUndoneStepsAreLetGo(t *testing.T) { // what undoes a step that was undone is not kept
	s, _ := sounding(t, ": main begin pad 9 tone again ;", 100, []uint8{3})
	s.Step(20)
	s.Back(15)
	for _, undo := range s.undo[5:20] {
		if undo != nil {
			t.Error("a step that was undone is kept")
		}
	}
}
