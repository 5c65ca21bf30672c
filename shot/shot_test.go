package shot_test

import (
	"bytes"
	"slices"
	"strings"
	"testing"

	"wisp/api"
	"wisp/shot"
)

// The chapter's worked examples, one by one; that is the screen of its first one.
func that() []byte { return with(1, 0, 171) }

func TestExampleOfArtAndPack(t *testing.T) { // chapter 20, example 1
	art, e := shot.Art(zeros())
	lines := strings.Split(art, "\n")
	if e != fine || len(lines) != 49 || lines[48] != "" {
		t.Fatalf("Art of zeros: %d lines, %d", len(lines)-1, e)
	}
	for _, line := range lines[:48] {
		if line != strings.Repeat(".", 128) {
			t.Errorf("Art of zeros has the line %q", line)
		}
	}
	if b, e := shot.Pack(zeros()); e != fine || !bytes.Equal(b, bytes.Repeat([]byte{255, 0}, 12)) {
		t.Errorf("Pack of zeros: %v, %d", b, e)
	}
	if art, e := shot.Art(that()); e != fine || !strings.HasPrefix(art, "..ab..") {
		t.Errorf("Art of that screen: %.20q, %d", art, e)
	}
	want := slices.Concat([]byte{0, 0, 0, 171}, bytes.Repeat([]byte{255, 0}, 11), []byte{253, 0})
	if b, e := shot.Pack(that()); e != fine || !bytes.Equal(b, want) {
		t.Errorf("Pack of that screen: %v, %d, want %v", b, e, want)
	}
}

func TestExampleOfUnpack(t *testing.T) { // chapter 20, example 2
	runs := func(many int) []byte { return bytes.Repeat([]byte{255, 0}, many) }
	if s, e := shot.Unpack(runs(12)); e != fine || !bytes.Equal(s, zeros()) {
		t.Errorf("Unpack of 12 runs: %d bytes, %d", len(s), e)
	}
	for what, b := range map[string][]byte{"a run that could be longer": append([]byte{254, 0, 0, 0}, runs(11)...), "11 runs": runs(11), "13 runs": runs(13), "no bytes": {}} {
		if s, e := shot.Unpack(b); e != badInput || len(s) != 0 {
			t.Errorf("Unpack of %s: %d bytes, %d, want none, %d", what, len(s), e, badInput)
		}
	}
}

func TestExampleOfDiffAndApply(t *testing.T) { // chapter 20, example 3
	one := []shot.Change{{1, 0, 0, 171}}
	if cs, e := shot.Diff(zeros(), that()); e != fine || !slices.Equal(cs, one) {
		t.Errorf("Diff: %v, %d, want %v", cs, e, one)
	}
	if s, e := shot.Apply(that(), one); e != badInput || len(s) != 0 {
		t.Errorf("Apply of %v to that screen: %d bytes, %d", one, len(s), e)
	}
	if s, e := shot.Apply(that(), []shot.Change{{1, 0, 171, 0}}); e != fine || !bytes.Equal(s, zeros()) {
		t.Errorf("Apply of the change back: %d bytes, %d", len(s), e)
	}
	for _, c := range []shot.Change{{64, 0, 0, 1}, {0, 48, 0, 1}} {
		if s, e := shot.Apply(zeros(), []shot.Change{c}); e != badInput || len(s) != 0 {
			t.Errorf("Apply of %v to zeros: %d bytes, %d", c, len(s), e)
		}
	}
}

func TestExampleOfTones(t *testing.T) { // chapter 20, example 4
	if got := shot.Tones([]api.Tone{{Cycle: 0, Pitch: 440, Volume: 9}, {Cycle: 12, Pitch: 65535, Volume: 0}}); got != "0 440 9\n12 65535 0\n" {
		t.Errorf("Tones: %q", got)
	}
}
