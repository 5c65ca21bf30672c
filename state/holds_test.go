package state_test

import (
	"bytes"
	"math/rand"
	"slices"
	"sync"
	"sync/atomic"
	"testing"

	"wisp/api"
	"wisp/console"
	"wisp/spare"
	"wisp/state"
)

// wantGoesOn asks that two consoles tell the same, play the same frames, and have the same state behind each.
func wantGoesOn(t *testing.T, what string, c, d *console.Console, pads ...uint8) {
	t.Helper()
	if !same(savedOf(c), savedOf(d)) || c.Check() != d.Check() {
		t.Fatalf("22.3: %s: the console stands elsewhere", what)
	}
	for n, pad := range pads {
		x, y := c.Frame(pad), d.Frame(pad)
		if !sameOut(x, y) {
			t.Fatalf("22.3: %s, frame %d: status %d, %d steps, %d idle, want %d, %d, %d; or other pixels or tones", what, n, y.Status, y.Steps, y.Idle, x.Status, x.Steps, x.Idle)
		}
		if !same(savedOf(c), savedOf(d)) {
			t.Fatalf("22.3: %s, frame %d: the console stands elsewhere", what, n)
		}
	}
	if !bytes.Equal(saveOf(t, what, c), saveOf(t, what, d)) {
		t.Fatalf("22.3: %s: other bytes behind %d frames", what, len(pads))
	}
}

func TestGoesOn(t *testing.T) { // 22.3, W7: from behind each frame of a life, yielded, cut, halted or faulted
	for _, src := range sourcesOfLives {
		for _, budget := range []int{4, 11, 60, 300} {
			c := playing(t, budget, src)
			for n := range 12 {
				wantGoesOn(t, src, c.Copy(), loaded(t, src, saveOf(t, src, c)), 5, 0, 255, 9, 9, 7)
				c.Frame(uint8(n))
			}
		}
	}
}

func TestGoesOnWithoutACartridge(t *testing.T) { // 22.3: blank frames, and a cartridge can be put in
	for _, budget := range []int{4, 127, 128, mostBudget} {
		c := made(t, budget)
		d := loaded(t, "no cartridge", saveOf(t, "no cartridge", c))
		wantGoesOn(t, "no cartridge", c, d, 1, 2)
		if status, fault, frames := d.Status(); status != 0 || fault != 0 || frames != 0 || d.Machine() != nil || len(d.Cart()) > 0 {
			t.Errorf("22.2: no cartridge: Status() = %d, %d, %d", status, fault, frames)
		}
		c.Source(adds)
		d.Source(adds)
		wantGoesOn(t, "a cartridge that was put in later", c, d, 3, 4, 5)
	}
}

func TestLoadedConsolesAreWhole(t *testing.T) { // 22.2: each call of chapter 19
	for _, src := range sourcesOfLives {
		c := playing(t, 50, src)
		c.Play(1, 2, 3)
		b := saveOf(t, src, c)
		d := loaded(t, src, b)
		wantGoesOn(t, src, c.Copy(), d.Copy(), 1, 9, 2)
		d.Reset()
		wantGoesOn(t, src+", reset", playing(t, 50, src), d, 1, 9, 2)
		d.Eject()
		wantGoesOn(t, src+", ejected", made(t, 50), d, 1, 9, 2)
		d = loaded(t, src, b)
		d.Source(adds)
		wantGoesOn(t, src+", with another source", playing(t, 50, adds), d, 1, 9, 2)
		d = loaded(t, src, b)
		if e := d.Load(nil); e == fine {
			t.Errorf("22.2: Load of nothing: %d", e)
		}
		wantGoesOn(t, src+", with a refused cartridge", made(t, 50), d, 1, 9, 2)
	}
}

func TestGoesOnToTheLastFrame(t *testing.T) { // 22.3, W7: up to the 9223372036854775807th
	for _, frames := range []int{0, 1, 4294967294, 4294967295, 4294967296, greatestCount - 2, greatestCount - 1, greatestCount} {
		for _, src := range sourcesOfLives {
			s := savedOf(playing(t, 40, src))
			s.frames = frames
			c := s.restored(t)
			many := min(3, greatestCount-frames)
			d := loaded(t, src, wantSave(t, src, c))
			for n := range many {
				wantGoesOn(t, src, c, d, uint8(n))
				if _, _, got := d.Status(); got != frames+n+1 {
					t.Errorf("22.3: %d frames, and %d more: %d", frames, n+1, got)
				}
				d = loaded(t, src, wantSave(t, src, d))
			}
			if x, y := c.Frame(9), d.Frame(9); !sameOut(x, y) { // what is counted now is free, but not what is played
				t.Errorf("22.3: behind the last frame: %d steps, %d steps", x.Steps, y.Steps)
			}
			saveOf(t, src, d)
		}
	}
}

func TestDrawnLivesGoOn(t *testing.T) { // 22.3, 22.4, W7: drawn cartridges, budgets and gamepads, saved again and again
	var going, ended, banked atomic.Int32
	inParts(t, 2231, func(t *testing.T, r *rand.Rand) {
		for range 60 {
			c := drawnLife(t, r)
			for range 4 {
				b := wantSave(t, "a drawn life", c)
				wantTaken(t, "a drawn life", b)
				d := loaded(t, "a drawn life", b)
				wantGoesOn(t, "a drawn life", c, d, anyPads(r, r.Intn(8))...)
				if r.Intn(2) == 0 {
					c = d
				}
			}
			s := savedOf(c)
			if s.state.Status == running {
				going.Add(1)
			} else {
				ended.Add(1)
			}
			if len(s.image.Banks) > 0 {
				banked.Add(1)
			}
		}
	})
	if going.Load() < 60 || ended.Load() < 60 || banked.Load() < 60 {
		t.Errorf("%d lives go on, %d have ended, %d have banks", going.Load(), ended.Load(), banked.Load())
	}
}

func TestDrawnStatesGoOn(t *testing.T) { // 22.2 to 22.4: states that no life leads to, against a machine that stands there
	inParts(t, 2232, func(t *testing.T, r *rand.Rand) {
		for range 100 {
			s := drawnState(t, r)
			b := s.parts().bytes()
			wantTaken(t, "a drawn state", b)
			c, m := loaded(t, "a drawn state", b), s.machine(t)
			if !bytes.Equal(wantSave(t, "a drawn state", s.restored(t)), b) {
				t.Fatal("22.1: a drawn state is saved otherwise")
			}
			for n, pad := range anyPads(r, r.Intn(6)) {
				want, _ := m.Frame(pad, s.budget)
				if o := c.Frame(pad); !sameOut(o, want) {
					t.Fatalf("22.3: a drawn state, frame %d: %d steps, want %d", n, o.Steps, want.Steps)
				}
				if x := savedOf(c); !sameState(x.state, m.State()) || !sameImage(x.image, m.Memory().Image()) || x.frames != s.frames+n+1 {
					t.Fatalf("22.3: a drawn state, frame %d: the console stands elsewhere", n)
				}
			}
		}
	})
}

func TestDrawnBytesTurned(t *testing.T) { // 22.5; and with a right sum they are a state of their own, or none
	var taken, refused atomic.Int32
	inParts(t, 2251, func(t *testing.T, r *rand.Rand) {
		for range 60 {
			b := drawnState(t, r).parts().bytes()
			if r.Intn(2) == 0 {
				b = saveOf(t, "a drawn life", drawnLife(t, r))
			}
			for range 40 {
				c := bytes.Clone(b)
				c[r.Intn(len(c))] ^= byte(1 + r.Intn(255))
				wantNone(t, "22.5: a turned byte", c)
				for range r.Intn(3) {
					c[r.Intn(len(c))] ^= byte(1 + r.Intn(255))
				}
				if wantLoad(t, "turned bytes, and the sum", sealed(c[:len(c)-4])) {
					taken.Add(1)
				} else {
					refused.Add(1)
				}
			}
		}
	})
	if taken.Load() < 500 || refused.Load() < 500 {
		t.Errorf("%d are taken, %d refused", taken.Load(), refused.Load())
	}
}

func TestDrawnPartsSpoilt(t *testing.T) { // 22.2, 22.4: some bytes behind the cartridge are drawn, taken out or put in, with a right sum
	var taken, refused atomic.Int32
	inParts(t, 2252, func(t *testing.T, r *rand.Rand) {
		for range 1200 {
			s := full(t)
			p := s.parts()
			body := p.bytes()
			body = body[:len(body)-4]
			from := len(p.begin) + len(p.budget) + len(p.with) + len(p.cart)
			for range 1 + r.Intn(3) {
				at := from + r.Intn(len(body)-from)
				switch r.Intn(4) {
				case 0:
					body = slices.Delete(body, at, at+1)
				case 1:
					body = slices.Insert(body, at, byte(r.Intn(4)))
				default:
					body[at] = byte(r.Intn(256))
				}
			}
			if wantLoad(t, "spoilt parts", sealed(body)) {
				taken.Add(1)
			} else {
				refused.Add(1)
			}
			noise := make([]byte, r.Intn(60))
			r.Read(noise)
			wantLoad(t, "noise", noise)
			wantLoad(t, "noise, and the sum", sealed(noise))
			wantLoad(t, "noise behind a beginning", sealed([]byte("WSAV\x01\x64"), noise))
			wantLoad(t, "noise behind a cartridge", sealed(body[:from], noise))
		}
	})
	if taken.Load() < 1000 || refused.Load() < 1000 {
		t.Errorf("%d are taken, %d refused", taken.Load(), refused.Load())
	}
}

func TestSavingChangesNothing(t *testing.T) { // 22.3: whatever is saved, and however often
	inParts(t, 2233, func(t *testing.T, r *rand.Rand) {
		for range 40 {
			c := drawnLife(t, r)
			if r.Intn(8) == 0 {
				c.Eject()
			}
			never, before, tones := c.Copy(), savedOf(c), c.Machine().Memory().Tones()
			b := saveOf(t, "it", c)
			if !bytes.Equal(saveOf(t, "it", c), b) {
				t.Fatal("22.3: saved twice, the bytes differ")
			}
			if !same(savedOf(c), before) || !slices.Equal(c.Machine().Memory().Tones(), tones) {
				t.Fatal("22.3: saving has changed the console")
			}
			for _, pad := range anyPads(r, 6) {
				wantGoesOn(t, "a console that was saved", never, c, pad)
				saveOf(t, "it", c)
			}
		}
	})
}

func TestBytesStay(t *testing.T) { // R3: those that Load was handed, spare room too, and they are not kept
	r := rand.New(rand.NewSource(2291))
	for range 150 {
		s := drawnState(t, r)
		b := spare.Given(s.parts().bytes(), 77)
		switch r.Intn(4) {
		case 0:
			b[r.Intn(len(b))]++
		case 1:
			b = spare.Given(sealed(b[:r.Intn(len(b))]), 77)
		}
		before := bytes.Clone(b[:cap(b)])
		c, e := state.Load(b)
		if !bytes.Equal(b[:cap(b)], before) {
			t.Fatal("R3: what was handed in has changed")
		}
		spare.Over(b, 99)
		if e != fine {
			continue
		}
		wantGoesOn(t, "R3: what was handed in is kept", s.restored(t), c, 1, 2, 3)
		c.Reset()
		fresh := made(t, s.budget)
		fresh.Load(s.cart)
		wantGoesOn(t, "R3: what was handed in is kept", fresh, c, 1, 2, 3)
		if !bytes.Equal(b[:cap(b)], bytes.Repeat([]byte{99}, cap(b))) {
			t.Fatal("R3: what was handed in is written to by a console")
		}
	}
}

func TestWhatIsHandedOutIsApart(t *testing.T) { // R3: it may be written over, spare room too
	r := rand.New(rand.NewSource(2292))
	for range 100 {
		c := drawnState(t, r).restored(t)
		before := savedOf(c)
		b, again := saveOf(t, "it", c), saveOf(t, "it", c)
		want := bytes.Clone(b)
		spare.Over(b, 99)
		if !bytes.Equal(again, want) || !same(savedOf(c), before) || !bytes.Equal(saveOf(t, "it", c), want) {
			t.Fatal("R3: the bytes of a state share memory with others, or with the console")
		}
		x, y := loaded(t, "it", want), loaded(t, "it", want)
		x.Play(anyPads(r, 4)...)
		spare.Over(x.Cart(), 99)
		x.Eject()
		wantGoesOn(t, "R3: a console that sees another one", c, y, 1, 2)
	}
}

func TestWithoutAnErrorOrAnAnswer(t *testing.T) { // R2: beside an error there is nothing, beside none there is something
	r := rand.New(rand.NewSource(2293))
	for range 300 {
		b := drawnState(t, r).parts().bytes()
		b = b[:r.Intn(len(b)+1)]
		c, e := state.Load(b)
		if (c == nil) != (e != fine) || e != fine && e != badState {
			t.Fatalf("R2: Load = %t, %d", c != nil, e)
		}
	}
}

func TestEmptyListsAreOne(t *testing.T) { // R4: nil or not
	wantNone(t, "nil", nil)
	wantNone(t, "no bytes", []byte{})
	s := plain(t)
	want := s.parts().bytes()
	s.state.Data, s.state.Return, s.image.Banks = []uint16{}, []api.Cell{}, []api.Bank{}
	if b := saveOf(t, "empty lists", s.restored(t)); !bytes.Equal(b, want) {
		t.Errorf("R4: Save with empty lists: % x, want % x", b, want)
	}
}

func TestAtOnce(t *testing.T) { // R5: the answers hang on nothing that other calls do at the same time
	s := full(t)
	want := s.parts().bytes()
	box := s.restored(t)
	turned := bytes.Clone(want)
	turned[9] ^= 1
	var all sync.WaitGroup
	for range 16 {
		all.Go(func() {
			for range 20 {
				if b, e := state.Save(box); e != fine || !bytes.Equal(b, want) {
					t.Errorf("R5: Save: %d", e)
				}
				if c, e := state.Load(want); e != fine || !same(savedOf(c), s) {
					t.Errorf("R5: Load: %d", e)
				}
				if c, e := state.Load(turned); e != badState || c != nil {
					t.Errorf("R5: Load of a turned byte: %d", e)
				}
				if b, e := state.Save(nil); e != noHandle || b != nil {
					t.Errorf("R5: Save of nil: %d", e)
				}
			}
		})
	}
	all.Wait()
}
