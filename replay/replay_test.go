package replay_test

import (
	"bytes"
	"slices"
	"testing"

	"wisp/console"
	"wisp/replay"
)

// The chapter's examples, one by one.

func TestExampleOfRecordAndVerify(t *testing.T) { // chapter 21, example 1
	image := imageOf(t, blind)
	r, e := replay.Record(image, 100, []uint8{1, 1, 0})
	if e != fine || !bytes.Equal(r.Cart, image) || r.Budget != 100 || !bytes.Equal(r.Pads, []byte{1, 1, 0}) || len(r.Digests) != 3 {
		t.Fatalf("Record: %+v, %d", r, e)
	}
	if r.Digests[1] != r.Digests[2] || r.Digests[0] == r.Digests[1] {
		t.Errorf("Record: the digests %d", r.Digests)
	}
	outs := lives(t, image, 100, r.Pads)
	if o := outs[1]; o.Steps != 2 || o.Spent != 3 || o.Idle != 97 || digestOf(o) != r.Digests[1] {
		t.Errorf("Record: the second frame has %d steps, spent %d, idle %d", o.Steps, o.Spent, o.Idle)
	}
	wantVerify(t, "what was recorded", r, -1, fine)
	turned := clone(r)
	turned.Digests[1] = ^turned.Digests[1]
	wantVerify(t, "the second digest turned", turned, 1, other)
	r.Pads = []uint8{1, 1, 9}
	wantVerify(t, "gamepads that nobody looks at", r, -1, fine)
}

func TestExampleOfBytes(t *testing.T) { // chapter 21, example 2
	image := imageOf(t, blind)
	r := recorded(t, image, 100, 1, 1, 0)
	b, e := replay.Encode(r)
	if e != fine {
		t.Fatalf("Encode: %d", e)
	}
	at := 0
	for _, part := range [][]byte{{0x57, 0x52, 0x45, 0x43, 0x01}, {0x64}, number(len(image)), image, {2, 2, 1, 1, 0}, words(r.Digests...)} {
		if !bytes.HasPrefix(b[at:], part) {
			t.Fatalf("Encode: % x at %d, want % x", b[at:min(len(b), at+len(part))], at, part)
		}
		at += len(part)
	}
	if !bytes.Equal(b, sealed(b[:at])) {
		t.Errorf("Encode: the bytes end with % x, not with their sum", b[at:])
	}
}

func TestExampleOfWhatMayNotBe(t *testing.T) { // chapter 21, example 3
	image := imageOf(t, blind)
	none := recorded(t, image, 100)
	b, e := replay.Encode(none)
	if want := sealed(head(100, image), []byte{0}); e != fine || !bytes.Equal(b, want) {
		t.Errorf("Encode without frames: % x, %d, want % x", b, e, want)
	}
	two := words(1, 2)
	for what, b := range map[string][]byte{
		"one gamepad twice":  sealed(head(100, image), []byte{2, 1, 5, 1, 5}, two),
		"a run of 0 frames":  sealed(head(100, image), []byte{2, 2, 5, 0, 6}, two),
		"a budget of 3":      sealed(head(3, image), []byte{1, 2, 5}, two),
		"a digest too few":   sealed(head(100, image), []byte{1, 2, 5}, two[:4]),
		"no frames, and one": sealed(head(100, image), []byte{1, 0, 5}),
	} {
		wantNone(t, what, b)
	}
	if b, e := replay.Encode(replay.Recording{Cart: image, Budget: 3}); e != badRecord || b != nil {
		t.Errorf("Encode of a budget of 3: %d bytes, %d", len(b), e)
	}
	if b, e := replay.Encode(replay.Recording{Cart: image, Budget: 100, Pads: []uint8{5, 5}, Digests: []uint32{1}}); e != badRecord || b != nil {
		t.Errorf("Encode of a digest too few: %d bytes, %d", len(b), e)
	}
}

func TestExampleOfRefusals(t *testing.T) { // chapter 21, example 4
	if r, e := replay.Record(nil, 100, nil); e != badMagic || !empty(r) {
		t.Errorf("Record of nothing: %+v, %d", r, e)
	}
	image := imageOf(t, blind)
	r := recorded(t, image, 100, 1, 1, 0)
	if c, e := replay.Seek(r, 4); e != badInput || c != nil {
		t.Errorf("Seek of 4: %t, %d", c != nil, e)
	}
	c, e := replay.Seek(r, 0)
	if e != fine || c == nil {
		t.Fatalf("Seek of 0: %d", e)
	}
	wantBehind(t, "Seek of 0", c, r, 0)
	fresh, _ := console.New(100)
	fresh.Load(image)
	if got, want := c.Play(r.Pads...), fresh.Play(r.Pads...); !slices.EqualFunc(got, want, sameOut) {
		t.Error("Seek of 0: the console plays other frames than a new one")
	}
}
