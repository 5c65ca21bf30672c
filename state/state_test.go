package state_test

import (
	"bytes"
	"slices"
	"testing"

	"wisp/state"
)

func TestExampleWithoutACartridge(t *testing.T) { // chapter 22, example 1
	b := saveOf(t, "New(100)", made(t, 100))
	if want := sealed([]byte{0x57, 0x53, 0x41, 0x56, 0x01, 0x64, 0x00}); !bytes.Equal(b, want) || len(b) != 11 {
		t.Errorf("Save of New(100): % x, want % x", b, want)
	}
	b = saveOf(t, "New(300)", made(t, 300))
	if want := sealed([]byte{0x57, 0x53, 0x41, 0x56, 0x01, 0xac, 0x02, 0x00}); !bytes.Equal(b, want) || len(b) != 12 {
		t.Errorf("Save of New(300): % x, want % x", b, want)
	}
}

func TestExampleBehindThreeFrames(t *testing.T) { // chapter 22, example 2
	c := playing(t, 100, ": main begin yield again ;")
	c.Play(4, 5, 6)
	image := c.Cart()
	want := sealed([]byte("WSAV\x01\x64\x01"), number(len(image)), image,
		[]byte{3, 0, 0, 0, 0, 0, 0, 0}, // frames
		[]byte{132, 0, 1, 0},           // behind main's yield, Running, FaultNone
		[]byte{0, 0},                   // no cells
		[]byte{0, 0},                   // Ram and Screen
		[]byte{0, 6, 0, 0, 0, 3, 0})
	if b := saveOf(t, "three frames", c); !bytes.Equal(b, want) {
		t.Errorf("Save behind 3 frames: % x, want % x", b, want)
	}
}

func TestExampleOfRefusals(t *testing.T) { // chapter 22, example 3
	if c, e := state.Load(nil); c != nil || e != badState {
		t.Errorf("Load of nothing: %t, %d", c != nil, e)
	}
	for x := range 256 {
		b := slices.Concat(saveOf(t, "New(100)", made(t, 100)), []byte{byte(x)})
		if c, e := state.Load(b); c != nil || e != badState {
			t.Errorf("Load of a byte %d more: %t, %d", x, c != nil, e)
		}
	}
	if b, e := state.Save(nil); b != nil || e != noHandle {
		t.Errorf("Save of nil: % x, %d", b, e)
	}
}
