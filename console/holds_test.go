package console_test

import (
	"bytes"
	"math/rand"
	"reflect"
	"slices"
	"testing"

	"wisp/api"
	"wisp/carts"
	"wisp/console"
	"wisp/mem"
	"wisp/spare"
	"wisp/vm"
)

func TestTheBytesStay(t *testing.T) { // R3: what Load was handed, spare room too; and it is not kept
	r := rand.New(rand.NewSource(1951))
	for range 200 {
		plain := imageOfCart(t, anyCart(t, r))
		b := spare.Given(plain, 77)
		before := slices.Clone(b[:cap(b)])
		c, d := made(t, 80), made(t, 80)
		d.Load(plain)
		if e := c.Load(b); e != fine {
			t.Fatalf("R3: with room behind the bytes: Load = %d", e)
		}
		first, want := c.Play(1, 2, 3), d.Play(1, 2, 3)
		c.Reset()
		c.Check()
		if !bytes.Equal(b[:cap(b)], before) {
			t.Fatal("R3: the bytes that were handed in have changed")
		}
		spare.Over(b, 99)
		if !bytes.Equal(c.Cart(), plain) || c.Check() != d.Check() {
			t.Fatal("R3: the bytes that were handed in are kept")
		}
		again := c.Play(1, 2, 3)
		c.Reset()
		if !slices.EqualFunc(first, want, sameOut) || !slices.EqualFunc(again, want, sameOut) || !slices.EqualFunc(c.Play(1, 2, 3), want, sameOut) {
			t.Fatal("R3: other frames behind a write over what was handed in")
		}
	}
}

func TestRefusedBytesStay(t *testing.T) { // R3
	for what, x := range refusedImages(t) {
		b := spare.Given(x.bytes, 77)
		before := slices.Clone(b[:cap(b)])
		c := made(t, 80)
		if e := c.Load(b); e != x.e || !bytes.Equal(b[:cap(b)], before) {
			t.Errorf("R3: Load of %s = %d", what, e)
		}
	}
}

func TestTheGamepadsStay(t *testing.T) { // R3: what Play was handed, spare room too; and it is not kept
	c, d := playing(t, 400, busy), playing(t, 400, busy)
	pads := spare.Given([]uint8{1, 2, 3, 200}, 77)
	before := slices.Clone(pads[:cap(pads)])
	outs := c.Play(pads...)
	if !bytes.Equal(pads[:cap(pads)], before) || len(outs) != 4 {
		t.Errorf("R3: %d outs; the gamepads are %v", len(outs), pads[:cap(pads)])
	}
	spare.Over(pads, 99)
	if !slices.EqualFunc(outs, d.Play(1, 2, 3, 200), sameOut) {
		t.Error("R3: the outs follow the gamepads")
	}
	wantOut(t, "the next frame", c.Frame(8), d.Frame(8))
	var none *console.Console
	pads = spare.Given([]uint8{1, 2}, 77)
	if none.Play(pads...); !bytes.Equal(pads[:5], []byte{1, 2, 77, 77, 77}) {
		t.Errorf("R3: %v", pads[:5])
	}
}

// roomy is what Restore is handed, with room behind each list.
func roomy(s saved) saved {
	s.cart = spare.Given(s.cart, 77)
	s.state.Data = spare.Given(s.state.Data, 77)
	s.state.Return = spare.Given(s.state.Return, api.Cell{Kind: 77, Value: 77})
	s.image = roomyImage(s.image)
	return s
}

func roomyImage(x mem.Image) mem.Image {
	x.Ram, x.Screen = spare.Given(x.Ram, 77), spare.Given(x.Screen, 77)
	x.Banks = spare.Given(x.Banks, api.Bank{Num: 77})
	for i := range x.Banks {
		x.Banks[i].Data = spare.Given(x.Banks[i].Data, 77)
	}
	return x
}

// whole is a copy in which the room of the lists stands as if it were in them.
func whole(s saved) saved {
	s.cart = slices.Clone(s.cart[:cap(s.cart)])
	s.state.Data = slices.Clone(s.state.Data[:cap(s.state.Data)])
	s.state.Return = slices.Clone(s.state.Return[:cap(s.state.Return)])
	x := &s.image
	x.Ram, x.Screen = slices.Clone(x.Ram[:cap(x.Ram)]), slices.Clone(x.Screen[:cap(x.Screen)])
	x.Banks = slices.Clone(x.Banks[:cap(x.Banks)])
	for i := range x.Banks {
		x.Banks[i].Data = slices.Clone(x.Banks[i].Data[:cap(x.Banks[i].Data)])
	}
	return s
}

// wreck writes over all that there is, the lists' room too.
func wreck(s vm.State, x mem.Image) {
	spare.Over(s.Data, 99)
	spare.Over(s.Return, api.Cell{Kind: 99, Value: 99})
	spare.Over(x.Ram, 99)
	spare.Over(x.Screen, 99)
	for i := range x.Banks {
		spare.Over(x.Banks[i].Data, 99)
	}
	spare.Over(x.Banks, api.Bank{Num: 99})
}

func TestWhatRestoreIsHandedStays(t *testing.T) { // R3: the bytes, the state and the image, spare room too; and they are not kept
	r := rand.New(rand.NewSource(1952))
	for range 100 {
		c := made(t, carts.Budget(r))
		c.Load(imageOfCart(t, anyCart(t, r)))
		c.Play(anyPads(r, 1+r.Intn(6))...)
		s := roomy(savedOf(c))
		before := whole(s)
		d := s.restored(t)
		pads := anyPads(r, 6)
		want := c.Copy().Play(pads...)
		if got := d.Copy().Play(pads...); !slices.EqualFunc(got, want, sameOut) {
			t.Fatal("19.8: with room behind the lists: other frames")
		}
		d.Copy().Reset()
		if !reflect.DeepEqual(whole(s), before) {
			t.Fatal("R3: what was handed in has changed")
		}
		spare.Over(s.cart, 99)
		wreck(s.state, s.image)
		if got := d.Play(pads...); !slices.EqualFunc(got, want, sameOut) || !bytes.Equal(d.Cart(), c.Cart()) {
			t.Fatal("R3: what was handed in is kept")
		}
		d.Reset()
		wantStands(t, "Reset behind a write over what was handed in", d, machineOf(t, c.Cart()))
	}
	for _, x := range spoilers { // what is refused stays too
		for _, spoil := range x.spoil {
			s := roomy(some(t))
			spoil(&s)
			before := whole(s)
			if _, e := s.restore(); e != x.e || !reflect.DeepEqual(whole(s), before) {
				t.Errorf("R3: with %s wrong: Restore = %d, or something has changed", x.what, e)
			}
		}
	}
}

func TestOutsMayBeWrittenOver(t *testing.T) { // R3: of Frame and of Play, with a cartridge and without; later frames do not change them
	for _, src := range []string{"", busy, ": main 5 5 7 plot 3 4 tone ;", ": main 5 5 7 plot 3 4 tone drop ;"} {
		c, d := made(t, 200), made(t, 200)
		if src != "" {
			wantSource(t, c, src)
			wantSource(t, d, src)
		}
		for pad := range uint8(10) {
			o, want := c.Frame(pad), d.Frame(pad)
			kept := api.Out{Status: o.Status, Fault: o.Fault, Steps: o.Steps, Spent: o.Spent, Idle: o.Idle, Screen: slices.Clone(o.Screen), Tones: slices.Clone(o.Tones)}
			wantOut(t, "R3: "+src, o, want)
			outs, others := c.Play(pad, pad+1, pad+2), d.Play(pad, pad+1, pad+2)
			wantOut(t, "R3: an out behind later frames, "+src, o, kept)
			for i := range outs { // no two lists share: those that come behind are as they were
				wantOut(t, "R3: "+src, outs[i], others[i])
				spare.Over(outs[i].Screen, 222)
				spare.Over(outs[i].Tones, api.Tone{Cycle: 222})
			}
			wantOut(t, "R3: an out ahead of others that are written over, "+src, o, kept)
			spare.Over(outs, api.Out{Status: 99})
			spare.Over(o.Screen, 111)
			spare.Over(o.Tones, api.Tone{Cycle: 111})
		}
	}
}

func TestOutsOfOnePlayAreApart(t *testing.T) { // R3: the last one may be written over, and the first ones are as they were
	for _, src := range []string{"", busy, ": main 5 5 7 plot ;"} {
		c := made(t, 200)
		if src != "" {
			wantSource(t, c, src)
		}
		outs := c.Play(1, 2, 3, 4, 5)
		for i := len(outs) - 1; i > 0; i-- {
			screen, tones := slices.Clone(outs[i-1].Screen), slices.Clone(outs[i-1].Tones)
			spare.Over(outs[i].Screen, 222)
			spare.Over(outs[i].Tones, api.Tone{Cycle: 222})
			if !bytes.Equal(outs[i-1].Screen, screen) || !slices.Equal(outs[i-1].Tones, tones) {
				t.Errorf("R3: %s: the outs %d and %d share something", src, i-1, i)
			}
		}
	}
}

func TestBytesMayBeWrittenOver(t *testing.T) { // R3: those that Cart tells, of a console, of its copy and of one that is restored
	b := imageOf(t, busy)
	c := playing(t, 100, busy)
	d := c.Copy()
	x := savedOf(c).restored(t)
	for _, one := range []*console.Console{c, d, x} {
		first, second := one.Cart(), one.Cart()
		spare.Over(first, 99)
		if !bytes.Equal(second, b) {
			t.Error("R3: two answers share memory")
		}
		spare.Over(second, 99)
		for _, other := range []*console.Console{c, d, x} {
			if !bytes.Equal(other.Cart(), b) || other.Check() != (api.Verdict{}) {
				t.Error("R3: what was handed out is the console's own")
			}
			other.Reset()
			wantStands(t, "Reset", other, machineOf(t, b))
		}
	}
}

func TestStandingsMayBeWrittenOver(t *testing.T) { // R3: the State and the Image of its Machine
	c, d := playing(t, 70, busy), playing(t, 70, busy)
	for pad := range uint8(20) {
		m := c.Machine()
		wreck(m.State(), m.Memory().Image())
		wantOut(t, "R3", c.Frame(pad), d.Frame(pad))
		wantStands(t, "R3", c, d.Machine())
	}
}

func TestConsolesAreApart(t *testing.T) { // R5: of one image, and of one slice of bytes; a life is what its gamepads make it
	r := rand.New(rand.NewSource(1953))
	for range 60 {
		b := imageOfCart(t, anyCart(t, r))
		budget := carts.Budget(r)
		one, two := made(t, budget), made(t, budget)
		one.Load(b)
		two.Load(b)
		pads := anyPads(r, 15)
		first := one.Play(pads...)
		other := made(t, 500) // and others between
		wantSource(t, other, anySource(r))
		other.Play(anyPads(r, 5)...)
		wantStands(t, "R5", two, machineOf(t, b))
		if !slices.EqualFunc(two.Play(pads...), first, sameOut) {
			t.Fatal("R5: the same life is another one")
		}
	}
}

func TestEmptyListsAreOne(t *testing.T) { // R4: no bytes, no gamepads, no cells, no banks: nil or not
	c := playing(t, 100, ": main begin yield again ;")
	s := savedOf(c)
	one, two := s, s
	one.state.Data, one.state.Return, one.image.Banks = nil, nil, nil
	two.state.Data, two.state.Return, two.image.Banks = []uint16{}, []api.Cell{}, []api.Bank{}
	wantOut(t, "R4", one.restored(t).Frame(1), two.restored(t).Frame(1))
	for _, b := range [][]byte{nil, {}} {
		if e := c.Load(b); e != badMagic {
			t.Errorf("R4: Load = %d", e)
		}
		if _, e := console.Restore(100, b, 0, s.state, s.image); e != badMagic {
			t.Errorf("R4: Restore = %d", e)
		}
	}
}
