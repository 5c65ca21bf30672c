package replay_test

import (
	"bytes"
	"math/rand"
	"slices"
	"sync"
	"sync/atomic"
	"testing"

	"wisp/carts"
	"wisp/replay"
	"wisp/spare"
)

func drawnBudget(r *rand.Rand) int {
	if r.Intn(30) == 0 {
		return []int{leastBudget, mostBudget}[r.Intn(2)]
	}
	return carts.Budget(r)
}

// drawnLife is a recording of a drawn cartridge, budget and gamepads, as Record answers it.
func drawnLife(t *testing.T, r *rand.Rand) replay.Recording {
	t.Helper()
	return recorded(t, anyImage(t, r), drawnBudget(r), anyPads(r, r.Intn(30))...)
}

func TestDrawnLivesVerify(t *testing.T) { // 21.5, W7: and with one gamepad changed the first frame, from that one on, that has another digest
	var shown, late, hidden atomic.Int32
	inParts(t, 2151, func(t *testing.T, r *rand.Rand) {
		for range 80 {
			x := drawnLife(t, r)
			wantVerify(t, "what was recorded", x, -1, fine)
			if len(x.Pads) == 0 {
				continue
			}
			for range 4 {
				y := clone(x)
				at := r.Intn(len(y.Pads))
				y.Pads[at] ^= byte(1 + r.Intn(255))
				frame, e := firstOther(recordOf(t, y.Cart, y.Budget, y.Pads).Digests, x.Digests)
				wantVerify(t, "a changed gamepad", y, frame, e)
				switch {
				case e == fine:
					hidden.Add(1)
				case frame < at:
					t.Fatalf("21.5: the gamepad %d was changed, and the frame %d differs", at, frame)
				case frame == at:
					shown.Add(1)
				default:
					late.Add(1)
				}
			}
		}
	})
	if shown.Load() < 100 || late.Load() < 20 || hidden.Load() < 200 {
		t.Errorf("%d changed gamepads show at once, %d later, %d never", shown.Load(), late.Load(), hidden.Load())
	}
}

func TestDrawnDigestsTurned(t *testing.T) { // 21.2, W7: the first of those that differ
	inParts(t, 2152, func(t *testing.T, r *rand.Rand) {
		for range 60 {
			x := drawnLife(t, r)
			right := slices.Clone(x.Digests)
			for i := range x.Digests {
				if r.Intn(9) == 0 {
					x.Digests[i] += uint32(r.Intn(3)) << r.Intn(32)
				}
			}
			frame, e := firstOther(right, x.Digests)
			wantVerify(t, "drawn digests", x, frame, e)
		}
	})
}

func TestDrawnRecordingsThereAndBack(t *testing.T) { // 21.6: those of lives, and those of any bytes and digests
	inParts(t, 2161, func(t *testing.T, r *rand.Rand) {
		for range 150 {
			wantThereAndBack(t, "a drawn recording", anyRecording(r))
			x := drawnLife(t, r)
			b := wantThereAndBack(t, "a drawn life", x)
			back, _ := replay.Decode(b)
			wantVerify(t, "a drawn life that was laid down and taken up", back, -1, fine)
		}
	})
}

// laidAnyhow is bytes much like a recording's: its parts are what they may be, for the most part.
func laidAnyhow(r *rand.Rand) []byte {
	small := func(most int) []byte { return number([]int{r.Intn(most), r.Intn(4), r.Intn(300)}[r.Intn(3)]) }
	image := make([]byte, r.Intn(4))
	r.Read(image)
	b := append([]byte("WREC\x01"), small(17000)...)
	b = append(append(b, number(len(image))...), image...)
	many, frames := r.Intn(4), 0
	b = append(b, number(many)...)
	for range many {
		n := r.Intn(4)
		if r.Intn(20) == 0 {
			n = r.Intn(600)
		}
		b = append(b, run(n, byte(r.Intn(3)))...)
		frames += n
	}
	if r.Intn(10) == 0 {
		frames += r.Intn(3)
	}
	digests := make([]byte, 4*frames)
	r.Read(digests)
	return append(b, digests...)
}

func TestDrawnBytes(t *testing.T) { // 21.3, 21.6: of all sorts, with a right sum: taken, or refused
	var taken, refused atomic.Int32
	inParts(t, 2162, func(t *testing.T, r *rand.Rand) {
		for range 4000 {
			b := laidAnyhow(r)
			if r.Intn(4) == 0 {
				b = bytesOf(anyRecording(r))
				b = b[:len(b)-4]
				for range r.Intn(3) {
					b[r.Intn(min(len(b), 30))] = byte(r.Intn(256))
				}
			}
			if wantDecode(t, "drawn bytes", sealed(b)) == fine {
				taken.Add(1)
			} else {
				refused.Add(1)
			}
			noise := make([]byte, r.Intn(40))
			r.Read(noise)
			wantDecode(t, "noise", sealed(noise))
			wantDecode(t, "noise behind a beginning", sealed(head(100, nil), noise))
			wantDecode(t, "noise without a sum", noise)
		}
	})
	if taken.Load() < 2000 || refused.Load() < 2000 {
		t.Errorf("%d are taken, %d refused", taken.Load(), refused.Load())
	}
}

func TestDrawnSeeks(t *testing.T) { // 21.7: the frames that follow have the digests that Record tells
	inParts(t, 2171, func(t *testing.T, r *rand.Rand) {
		for range 60 {
			x := drawnLife(t, r)
			n := r.Intn(len(x.Pads) + 1)
			wantSeek(t, "a drawn life", x, n)
			c, _ := replay.Seek(x, n)
			for i, o := range c.Play(x.Pads[n:]...) {
				if digestOf(o) != x.Digests[n+i] {
					t.Fatalf("21.7: Seek of %d: the frame %d has another digest", n, n+i)
				}
			}
		}
	})
}

func TestDrawnBeginnings(t *testing.T) { // 21.8: a recording of the first so many gamepads has the first so many digests
	inParts(t, 2181, func(t *testing.T, r *rand.Rand) {
		for range 60 {
			x := drawnLife(t, r)
			n := r.Intn(len(x.Pads) + 1)
			y := recorded(t, x.Cart, x.Budget, x.Pads[:n]...)
			if !slices.Equal(y.Digests, x.Digests[:n]) || !bytes.Equal(y.Pads, x.Pads[:n]) {
				t.Fatalf("21.8: of %d frames the first %d have other digests", len(x.Pads), n)
			}
			wantVerify(t, "the beginning of a life", replay.Recording{Cart: x.Cart, Budget: x.Budget, Pads: x.Pads[:n], Digests: x.Digests[:n]}, -1, fine)
		}
	})
}

// roomy is a recording each of whose lists has room behind it, with something in it.
func roomy(r replay.Recording) replay.Recording {
	r.Cart, r.Pads, r.Digests = spare.Given(r.Cart, 77), spare.Given(r.Pads, 77), spare.Given(r.Digests, 77)
	return r
}

// whole is a copy in which the room of the lists stands as if it were in them.
func whole(r replay.Recording) replay.Recording {
	r.Cart, r.Pads, r.Digests = r.Cart[:cap(r.Cart)], r.Pads[:cap(r.Pads)], r.Digests[:cap(r.Digests)]
	return clone(r)
}

// over writes over all that there is, the lists' room too.
func over(r replay.Recording) {
	spare.Over(r.Cart, 99)
	spare.Over(r.Pads, 99)
	spare.Over(r.Digests, 99)
}

func TestWhatIsHandedInStays(t *testing.T) { // R3: spare room too, of each call, whatever it answers
	r := rand.New(rand.NewSource(2191))
	for range 100 {
		x := roomy(drawnLife(t, r))
		switch r.Intn(6) {
		case 0:
			x.Cart = spare.Given(x.Cart[:r.Intn(len(x.Cart))], 77)
		case 1:
			x.Budget = 3
		case 2:
			x.Digests = spare.Given(append(x.Digests, 5), 77)
		case 3:
			if len(x.Digests) > 0 {
				x.Digests[r.Intn(len(x.Digests))]++
			}
		}
		before := whole(x)
		replay.Record(x.Cart, x.Budget, x.Pads)
		replay.Verify(x)
		replay.Encode(x)
		if c, e := replay.Seek(x, len(x.Pads)/2); e == fine {
			c.Play(1, 2, 3)
			c.Reset()
			c.Play(1, 2, 3)
		}
		replay.Seek(x, -1)
		if !same(whole(x), before) {
			t.Fatal("R3: what was handed in has changed")
		}
	}
}

func TestBytesStay(t *testing.T) { // R3: those that Decode was handed, spare room too
	r := rand.New(rand.NewSource(2192))
	for range 200 {
		b := spare.Given(bytesOf(anyRecording(r)), 77)
		if r.Intn(3) == 0 {
			b[r.Intn(len(b))]++
		}
		before := slices.Clone(b[:cap(b)])
		x, e := replay.Decode(b)
		if !bytes.Equal(b[:cap(b)], before) {
			t.Fatal("R3: what was handed in has changed")
		}
		kept := clone(x)
		spare.Over(b, 99)
		if !same(x, kept) {
			t.Fatalf("R3: what was handed in is kept (%d)", e)
		}
		over(x)
		if y, f := replay.Decode(before[:len(b)]); f != e || !same(y, kept) {
			t.Fatal("R3: Decode answers something else behind a write over what it answered")
		}
	}
}

func TestWhatIsHandedInIsNotKept(t *testing.T) { // R3: by recordings, by bytes, by consoles
	r := rand.New(rand.NewSource(2193))
	for range 100 {
		plain := drawnLife(t, r)
		n := r.Intn(len(plain.Pads) + 1)
		x := roomy(plain)
		y := recorded(t, x.Cart, x.Budget, x.Pads...)
		b, _ := replay.Encode(x)
		c, _ := replay.Seek(x, n)
		over(x)
		if !same(y, plain) || !bytes.Equal(b, bytesOf(plain)) {
			t.Fatal("R3: what was handed in is kept by a recording, or by bytes")
		}
		outs := lives(t, plain.Cart, plain.Budget, plain.Pads)
		wantBehind(t, "R3", c, plain, n)
		if got := c.Play(plain.Pads[n:]...); !slices.EqualFunc(got, outs[n:], sameOut) {
			t.Fatal("R3: what was handed in is kept by a console")
		}
		c.Reset()
		if got := c.Play(plain.Pads...); !slices.EqualFunc(got, outs, sameOut) {
			t.Fatal("R3: what was handed in is kept by a console")
		}
	}
}

// wantApart writes over the lists of a recording one by one, their room too: the others, and those of another answer, stay.
func wantApart(t *testing.T, what string, x, y replay.Recording) {
	t.Helper()
	want := clone(x)
	if !same(x, y) {
		t.Fatalf("R5: %s: two answers to one question", what)
	}
	spare.Over(x.Cart, 99)
	if !bytes.Equal(x.Pads, want.Pads) || !slices.Equal(x.Digests, want.Digests) {
		t.Fatalf("R3: %s: two lists of one answer share memory", what)
	}
	spare.Over(x.Pads, 98)
	if !bytes.Equal(x.Cart, bytes.Repeat([]byte{99}, len(x.Cart))) || !slices.Equal(x.Digests, want.Digests) {
		t.Fatalf("R3: %s: two lists of one answer share memory", what)
	}
	spare.Over(x.Digests, 97)
	if !same(y, want) {
		t.Fatalf("R3: %s: two answers share memory", what)
	}
}

func TestWhatIsHandedOutIsApart(t *testing.T) { // R3: it may be written over
	r := rand.New(rand.NewSource(2194))
	for range 100 {
		plain := drawnLife(t, r)
		x, y := recorded(t, plain.Cart, plain.Budget, plain.Pads...), recorded(t, plain.Cart, plain.Budget, plain.Pads...)
		want := clone(plain)
		wantApart(t, "Record", x, y)
		if !same(plain, want) {
			t.Fatal("R3: what Record was handed is written over")
		}
		b, _ := replay.Encode(plain)
		again, _ := replay.Encode(plain)
		spare.Over(b, 99)
		if !bytes.Equal(again, bytesOf(want)) || !same(plain, want) {
			t.Fatal("R3: two answers of Encode share memory, or one shares it with what was handed in")
		}
		x, _ = replay.Decode(again)
		y, _ = replay.Decode(again)
		wantApart(t, "Decode", x, y)
		if !bytes.Equal(again, bytesOf(want)) {
			t.Fatal("R3: what Decode was handed is written over")
		}
	}
}

func TestSoughtConsolesAreApart(t *testing.T) { // R3, R5: what one plays, the others do not see
	r := rand.New(rand.NewSource(2195))
	for range 60 {
		x := drawnLife(t, r)
		n := r.Intn(len(x.Pads) + 1)
		one, _ := replay.Seek(x, n)
		two, _ := replay.Seek(x, n)
		one.Play(anyPads(r, 5)...)
		spare.Over(one.Cart(), 99)
		one.Eject()
		outs := lives(t, x.Cart, x.Budget, x.Pads)
		wantBehind(t, "R3", two, x, n)
		if got := two.Play(x.Pads[n:]...); !slices.EqualFunc(got, outs[n:], sameOut) {
			t.Fatal("R3: a console sees what another one plays")
		}
		wantVerify(t, "it again", x, -1, fine)
	}
}

func TestEmptyListsAreOne(t *testing.T) { // R4: nil or not
	image := imageOf(t, blind)
	want := bytesOf(replay.Recording{Cart: image, Budget: 100})
	for _, pads := range [][]uint8{nil, {}} {
		if r, e := replay.Record(image, 100, pads); e != fine || !bytes.Equal(r.Cart, image) || len(r.Pads) != 0 || len(r.Digests) != 0 {
			t.Errorf("R4: Record without gamepads: %+v, %d", r, e)
		}
		for _, digests := range [][]uint32{nil, {}} {
			r := replay.Recording{Cart: image, Budget: 100, Pads: pads, Digests: digests}
			wantVerify(t, "no frames", r, -1, fine)
			if b, e := replay.Encode(r); e != fine || !bytes.Equal(b, want) {
				t.Errorf("R4: Encode without gamepads: % x, %d", b, e)
			}
			wantSeeks(t, "no frames", r)
			for _, cart := range [][]byte{nil, {}} {
				r.Cart = cart
				wantVerify(t, "no bytes", r, -1, badMagic)
				if b, e := replay.Encode(r); e != fine || !bytes.Equal(b, sealed([]byte("WREC\x01\x64\x00\x00"))) {
					t.Errorf("R4: Encode without a cartridge: % x, %d", b, e)
				}
			}
		}
	}
}

func TestAtOnce(t *testing.T) { // R5: the answers hang on nothing that other calls do at the same time
	x := recorded(t, imageOf(t, adds), 50, 1, 2, 3, 3, 9)
	turned := clone(x)
	turned.Digests[3]++
	want := bytesOf(x)
	var all sync.WaitGroup
	for range 16 {
		all.Go(func() {
			for range 20 {
				if y, e := replay.Record(x.Cart, 50, x.Pads); e != fine || !same(y, x) {
					t.Errorf("R5: Record: %d", e)
				}
				wantVerify(t, "it", x, -1, fine)
				wantVerify(t, "it turned", turned, 3, other)
				if b, e := replay.Encode(x); e != fine || !bytes.Equal(b, want) {
					t.Errorf("R5: Encode: %d", e)
				}
				if y, e := replay.Decode(want); e != fine || !same(y, x) {
					t.Errorf("R5: Decode: %d", e)
				}
				if c, e := replay.Seek(x, 2); e != fine || digestOf(c.Frame(3)) != x.Digests[2] {
					t.Errorf("R5: Seek: %d", e)
				}
			}
		})
	}
	all.Wait()
}
