package shot_test

import (
	"bytes"
	"math/rand"
	"slices"
	"sync"
	"testing"

	"wisp/api"
	"wisp/shot"
	"wisp/spare"
)

func TestThereAndBack(t *testing.T) { // P20.6, P20.8
	r := rand.New(rand.NewSource(211))
	for range 2000 {
		s := drawn(r)
		art := wantArt(t, "a drawn screen", s)
		back, _ := shot.Read(art)
		if again, e := shot.Art(back); e != fine || again != art {
			t.Fatalf("P20.6: Art of Read: %d", e)
		}
		b := wantPack(t, "a drawn screen", s)
		if !wantUnpack(t, "a drawn screen's runs", b) {
			t.Fatal("P20.6: Unpack refuses what Pack answers")
		}
	}
}

func TestDiffsThereAndBack(t *testing.T) { // P20.7
	r := rand.New(rand.NewSource(212))
	for range 2000 {
		a := drawn(r)
		b := near(r, a)
		if r.Intn(2) == 0 {
			b = drawn(r)
		}
		there, back := wantDiff(t, "drawn screens", a, b), wantDiff(t, "drawn screens", b, a)
		for i := range back {
			back[i].Old, back[i].New = back[i].New, back[i].Old
		}
		if !slices.Equal(there, back) {
			t.Fatalf("P20.7: %d changes there, %d back", len(there), len(back))
		}
		if (len(there) == 0) != bytes.Equal(a, b) {
			t.Fatalf("P20.7: %d changes", len(there))
		}
	}
}

func TestDiffsInTheirOrder(t *testing.T) { // P20.7: one behind the other, they lead from the first screen to the last
	r := rand.New(rand.NewSource(213))
	for range 100 {
		first := drawn(r)
		var all []shot.Change
		now := first
		for range 5 {
			next := near(r, now)
			all = append(all, wantDiff(t, "drawn screens", now, next)...)
			now = next
		}
		if s, e := shot.Apply(first, all); e != fine || !bytes.Equal(s, now) {
			t.Fatalf("P20.3: Apply of five diffs: %d bytes, %d", len(s), e)
		}
	}
}

// whole is a copy of a list with its room.
func whole[T any](list []T) []T { return slices.Clone(list[:cap(list)]) }

func TestWhatIsHandedInStays(t *testing.T) { // R3: its room too, which is not looked at
	r := rand.New(rand.NewSource(214))
	for range 300 {
		s, other := drawn(r), drawn(r)
		a, b, runs := spare.Given(s, 77), spare.Given(other, 77), spare.Given(packOf(s), 77)
		cs := spare.Given(anyChanges(r, s), shot.Change{X: 77, Y: 77, Old: 77, New: 77})
		ts := spare.Given(anyTones(r, r.Intn(5)), api.Tone{Cycle: 77, Pitch: 77, Volume: 77})
		wholeA, wholeB, wholeRuns, wholeChanges, wholeTones := whole(a), whole(b), whole(runs), whole(cs), whole(ts)
		calls := map[string]func(){
			"Art":    func() { wantArt(t, "a screen with room", a) },
			"Pack":   func() { wantPack(t, "a screen with room", a) },
			"Unpack": func() { wantUnpack(t, "runs with room", runs) },
			"Diff":   func() { wantDiff(t, "screens with room", a, b) },
			"Apply":  func() { wantApply(t, "changes with room", a, cs...) },
			"Tones": func() {
				if shot.Tones(ts) != shot.Tones(slices.Clone(ts)) {
					t.Error("R3: Tones looks at the room behind its list")
				}
			},
			"Digest": func() {
				o := api.Out{Screen: a, Tones: ts}
				wantDigest(t, "an out with room", o, laidOf(o))
			},
		}
		for what, call := range calls {
			call()
			if !bytes.Equal(whole(a), wholeA) || !bytes.Equal(whole(b), wholeB) || !bytes.Equal(whole(runs), wholeRuns) || !slices.Equal(whole(cs), wholeChanges) || !slices.Equal(whole(ts), wholeTones) {
				t.Fatalf("R3: %s has changed what it was handed", what)
			}
		}
	}
}

func TestLengthsAreNotRoom(t *testing.T) { // R3: a list one short of a screen is none, whatever stands behind it
	a := filled(5)
	short := a[:pixels-1]
	if _, e := shot.Art(short); e != badInput {
		t.Errorf("R3: Art: %d", e)
	}
	if _, e := shot.Pack(short); e != badInput {
		t.Errorf("R3: Pack: %d", e)
	}
	if _, e := shot.Diff(short, a); e != badInput {
		t.Errorf("R3: Diff: %d", e)
	}
	if _, e := shot.Diff(a, short); e != badInput {
		t.Errorf("R3: Diff: %d", e)
	}
	if _, e := shot.Apply(short, nil); e != badInput {
		t.Errorf("R3: Apply: %d", e)
	}
	if _, e := shot.Unpack(packOf(a)[:22]); e != badInput {
		t.Errorf("R3: Unpack: %d", e)
	}
}

func TestWhatIsHandedOutIsApart(t *testing.T) { // R3: it may be written over, its room too
	r := rand.New(rand.NewSource(215))
	for range 200 {
		s, other := drawn(r), drawn(r)
		a, b := bytes.Clone(s), bytes.Clone(other)
		art, runs := artOf(s), packOf(s)
		lists := map[string]struct {
			made func() []byte
			want []byte
		}{
			"Read":                {func() []byte { x, _ := shot.Read(art); return x }, s},
			"Pack":                {func() []byte { x, _ := shot.Pack(a); return x }, packOf(s)},
			"Unpack":              {func() []byte { x, _ := shot.Unpack(runs); return x }, s},
			"Apply":               {func() []byte { x, _ := shot.Apply(a, diffOf(s, other)); return x }, other},
			"Apply of no changes": {func() []byte { x, _ := shot.Apply(a, nil); return x }, s},
		}
		for what, l := range lists {
			first, second := l.made(), l.made()
			spare.Over(first, 99)
			if !bytes.Equal(second, l.want) || !bytes.Equal(l.made(), l.want) {
				t.Fatalf("R3: two answers of %s share memory", what)
			}
			if !bytes.Equal(a, s) || !bytes.Equal(runs, packOf(s)) {
				t.Fatalf("R3: an answer of %s shares memory with what was handed in", what)
			}
		}
		first, _ := shot.Diff(a, b)
		second, _ := shot.Diff(a, b)
		spare.Over(first, shot.Change{X: 99})
		if !slices.Equal(second, diffOf(s, other)) || !bytes.Equal(a, s) || !bytes.Equal(b, other) {
			t.Fatal("R3: two answers of Diff share memory")
		}
	}
}

func TestWhatWasHandedInIsNotKept(t *testing.T) { // R3, R5
	r := rand.New(rand.NewSource(216))
	s := drawn(r)
	a, runs := bytes.Clone(s), packOf(s)
	art, _ := shot.Art(a)
	packed, _ := shot.Pack(a)
	behind, _ := shot.Apply(a, nil)
	back, _ := shot.Unpack(runs)
	spare.Over(a, 99)
	spare.Over(runs, 99)
	if art != artOf(s) || !bytes.Equal(packed, packOf(s)) || !bytes.Equal(behind, s) || !bytes.Equal(back, s) {
		t.Error("R3: answers follow what was handed in")
	}
}

func TestErrorsAnswerNothing(t *testing.T) { // R2: and what comes behind is as if they had not been asked
	s := that()
	for range 3 {
		if x, e := shot.Apply(s, []shot.Change{{X: 2, New: 1}, {X: 3, New: 1}, {X: 1, New: 1}}); len(x) != 0 || e != badInput {
			t.Errorf("R2: Apply: %d bytes, %d", len(x), e)
		}
		if !bytes.Equal(s, that()) {
			t.Fatal("R2: Apply has changed the screen")
		}
		if x, e := shot.Read(artOf(s)[1:]); len(x) != 0 || e != badInput {
			t.Errorf("R2: Read: %d bytes, %d", len(x), e)
		}
		if x, e := shot.Unpack(packOf(s)[2:]); len(x) != 0 || e != badInput {
			t.Errorf("R2: Unpack: %d bytes, %d", len(x), e)
		}
		wantArt(t, "that screen", s)
		wantPack(t, "that screen", s)
		wantDiff(t, "that screen", zeros(), s)
	}
}

func TestCallsSideBySide(t *testing.T) { // R5: nothing is kept between calls
	var all sync.WaitGroup
	for worker := range 8 {
		all.Go(func() {
			r := rand.New(rand.NewSource(int64(2170 + worker)))
			for range 50 {
				s, o := drawn(r), anyOut(r)
				art, _ := shot.Art(s)
				packed, _ := shot.Pack(s)
				if art != artOf(s) || !bytes.Equal(packed, packOf(s)) || shot.Digest(o) != shot.Digest(o) {
					t.Error("R5: another answer beside other calls")
				}
			}
		})
	}
	all.Wait()
}
