package replay_test

import (
	"bytes"
	"math"
	"math/rand"
	"testing"

	"wisp/replay"
)

// wantRecord holds Record of a cartridge's image against the second reckoning.
func wantRecord(t *testing.T, what string, image []byte, budget int, pads []uint8) replay.Recording {
	t.Helper()
	r, e := replay.Record(image, budget, pads)
	if want := recordOf(t, image, budget, pads); e != fine || !same(r, want) {
		t.Fatalf("21.1: Record of %s, budget %d, %d frames: %d, the digests %.8v, want %.8v", what, budget, len(pads), e, r.Digests, want.Digests)
	}
	return r
}

// budgets are those that may be and those that may not.
var budgets = []int{4, 5, 100, 8192, 16383, 16384, 3, 2, 1, 0, -1, -4, 16385, 16386, 65536, 1<<32 + 4, 1<<32 + 100, math.MaxInt, math.MinInt}

func mayBeBudget(n int) bool { return n >= leastBudget && n <= mostBudget }

func TestBudgets(t *testing.T) { // 21.1: and of the other calls: 4 to 16384
	image := imageOf(t, adds)
	pads := []uint8{3, 3, 200}
	for _, budget := range budgets {
		if mayBeBudget(budget) {
			r := wantRecord(t, "a budget", image, budget, pads)
			wantVerify(t, "a budget", r, -1, fine)
			wantThereAndBack(t, "a budget", r)
			wantSeeks(t, "a budget", r)
			continue
		}
		if r, e := replay.Record(image, budget, pads); e != badRecord || !empty(r) {
			t.Errorf("21.1: Record of the budget %d: %+v, %d", budget, r, e)
		}
		wantNoRecording(t, "a budget", replay.Recording{Cart: image, Budget: budget, Pads: pads, Digests: make([]uint32, 3)})
	}
}

// wantNoRecording asks that a recording may not be.
func wantNoRecording(t *testing.T, what string, r replay.Recording) {
	t.Helper()
	wantVerify(t, what, r, -1, badRecord)
	if b, e := replay.Encode(r); e != badRecord || b != nil {
		t.Errorf("21.3: Encode of %s: %d bytes, %d, want none, %d", what, len(b), e, badRecord)
	}
	for _, n := range []int{0, 1, -1, len(r.Pads), len(r.Pads) + 1} {
		if c, e := replay.Seek(r, n); e != badRecord || c != nil {
			t.Errorf("21.4: Seek of %s, %d: %t, %d, want none, %d", what, n, c != nil, e, badRecord)
		}
	}
}

func TestManyPads(t *testing.T) { // 21.1: at most 1024
	r := rand.New(rand.NewSource(2111))
	for _, src := range []string{blind, adds, later, changes} {
		image := imageOf(t, src)
		for _, many := range []int{0, 1, 2, 127, 128, 129, 1023, 1024} {
			x := wantRecord(t, src, image, 60, anyPads(r, many))
			if len(x.Digests) != many {
				t.Errorf("21.1: %d digests of %d frames", len(x.Digests), many)
			}
			wantVerify(t, src, x, -1, fine)
		}
		for _, many := range []int{1025, 1026, 2048, 65536, 1 << 20} {
			if x, e := replay.Record(image, 60, make([]uint8, many)); e != badRecord || !empty(x) {
				t.Errorf("21.1: Record of %d frames: %d", many, e)
			}
			wantNoRecording(t, "too many gamepads", replay.Recording{Cart: image, Budget: 60, Pads: make([]uint8, many), Digests: make([]uint32, many)})
		}
	}
	wantRecord(t, "the most of all", imageOf(t, ": main begin pad drop again ;"), mostBudget, anyPads(r, mostPads))
}

func TestManyBytes(t *testing.T) { // 21.1: at most 524288; no cartridge has so many, so the next error is Load's
	most := sealed([]byte("WISP\x01"), make([]byte, mostCart-9))
	for _, x := range []struct {
		what  string
		bytes []byte
		e     int
	}{{"zeros", make([]byte, mostCart), 70}, {"a right beginning and sum", most, 72}} {
		if len(x.bytes) != mostCart {
			t.Fatalf("the tests' own %d bytes", len(x.bytes))
		}
		if r, e := replay.Record(x.bytes, 100, []uint8{1}); int(e) != x.e || !empty(r) {
			t.Errorf("21.1: Record of %s: %d, want %d", x.what, e, x.e)
		}
		wantThereAndBack(t, x.what, replay.Recording{Cart: x.bytes, Budget: 100})
		more := append(bytes.Clone(x.bytes), 0)
		if r, e := replay.Record(more, 100, []uint8{1}); e != badRecord || !empty(r) {
			t.Errorf("21.1: Record of %s and a byte more: %d, want %d", x.what, e, badRecord)
		}
		wantNoRecording(t, "too many bytes", replay.Recording{Cart: more, Budget: 100})
		wantNoRecording(t, "too many bytes", replay.Recording{Cart: more, Budget: 100, Pads: []uint8{1}, Digests: []uint32{1}})
	}
	wantNoRecording(t, "far too many bytes", replay.Recording{Cart: make([]byte, 1<<24), Budget: 100})
}

func TestRecordOfRefusedBytes(t *testing.T) { // 21.1: each of Load's errors; and 21.2, 21.4
	for what, x := range refusedImages(t) {
		for _, pads := range [][]uint8{nil, {}, {1, 2}, make([]uint8, mostPads)} {
			for _, budget := range []int{4, 100, 16384} {
				if r, e := replay.Record(x.bytes, budget, pads); e != x.e || !empty(r) {
					t.Errorf("21.1: Record of %s: %d, want %d", what, e, x.e)
				}
			}
			r := replay.Recording{Cart: x.bytes, Budget: 100, Pads: pads, Digests: make([]uint32, len(pads))}
			wantVerify(t, what, r, -1, x.e)
			for _, n := range []int{0, len(pads)} {
				if c, e := replay.Seek(r, n); e != x.e || c != nil {
					t.Errorf("21.4: Seek of %s, %d: %t, %d, want none, %d", what, n, c != nil, e, x.e)
				}
			}
			wantThereAndBack(t, what, r) // whether it is a cartridge's does not matter there
		}
	}
}

func TestErrorsInTheirOrder(t *testing.T) { // chapter 21, errors, R2: ErrRecord, ErrInput, Load's, ErrOther
	image := imageOf(t, blind)
	for what, x := range refusedImages(t) {
		for _, spoil := range []struct {
			bytes  []byte
			budget int
			pads   int
		}{{x.bytes, 3, 1}, {x.bytes, 16385, 1}, {x.bytes, 100, 1025}, {x.bytes, 0, 1025}, {append(make([]byte, mostCart+1), x.bytes...), 100, 1}} {
			if r, e := replay.Record(spoil.bytes, spoil.budget, make([]uint8, spoil.pads)); e != badRecord || !empty(r) {
				t.Errorf("21.1: Record of %s, %d bytes, budget %d, %d frames: %d, want %d", what, len(spoil.bytes), spoil.budget, spoil.pads, e, badRecord)
			}
			wantNoRecording(t, what, replay.Recording{Cart: spoil.bytes, Budget: spoil.budget, Pads: make([]uint8, spoil.pads), Digests: make([]uint32, spoil.pads)})
		}
		wantNoRecording(t, what, replay.Recording{Cart: x.bytes, Budget: 100, Pads: []uint8{1}})
		r := replay.Recording{Cart: x.bytes, Budget: 100, Pads: []uint8{1, 2}, Digests: []uint32{1, 2}} // no frame would have these digests
		wantVerify(t, what, r, -1, x.e)
		for _, n := range []int{-1, 3} {
			if c, e := replay.Seek(r, n); e != badInput || c != nil {
				t.Errorf("21.4: Seek of %s, %d: %t, %d, want none, %d", what, n, c != nil, e, badInput)
			}
		}
	}
	wrong := replay.Recording{Cart: image, Budget: 100, Pads: []uint8{1, 2}, Digests: []uint32{1}}
	wantNoRecording(t, "a digest too few, and a wrong one", wrong)
}

func TestRecordOfDrawnLives(t *testing.T) { // 21.1: as the machine plays it, without a console
	inParts(t, 2112, func(t *testing.T, r *rand.Rand) {
		for range 60 {
			image := anyImage(t, r)
			wantRecord(t, "a drawn life", image, drawnBudget(r), anyPads(r, r.Intn(40)))
		}
	})
}
