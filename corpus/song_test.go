package corpus_test

import (
	"testing"

	"wisp/api"
)

// The notes of song's two banks: chapter 26's source.
var (
	climbing = []int{65, 73, 82, 87, 98, 110, 123, 130, 123, 110, 98, 87, 82, 73, 65, 55}
	other    = []int{98, 98, 110, 98, 130, 123, 98, 98, 110, 98, 146, 130, 98, 98, 196, 164}
)

// wantTone wants the note whose turn it is in each eighth frame, and nothing in the others.
func wantTone(t *testing.T, frame int, pad uint8, out api.Out) {
	t.Helper()
	if frame%8 != 0 {
		if len(out.Tones) != 0 {
			t.Fatalf("26.6: frame %d has the tones %v", frame, out.Tones)
		}
		return
	}
	notes := climbing
	if pad&up != 0 {
		notes = other
	}
	want := uint16(4 * notes[frame/8%len(notes)])
	if len(out.Tones) != 1 || out.Tones[0].Pitch != want || out.Tones[0].Volume != 5 {
		t.Fatalf("26.6: frame %d with the gamepad %d has the tones %v, want the pitch %d", frame, pad, out.Tones, want)
	}
}

// 26.6: in every eighth frame, and not of the first 600 alone: also where the count of cells goes on at 0.
func TestTheSongGoesOn(t *testing.T) {
	box := playing(t, "song")
	pads := drawnButton(8, 100)
	for frame := range 1<<16 + 100 {
		pad := pads(frame, box)
		out := box.Frame(pad)
		if out.Status != running || out.Fault != none {
			t.Fatalf("26.4: frame %d: status %d, fault %d", frame, out.Status, out.Fault)
		}
		wantTone(t, frame, pad, out)
	}
}
