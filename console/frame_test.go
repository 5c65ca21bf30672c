package console_test

import (
	"bytes"
	"math/rand"
	"slices"
	"testing"

	"wisp/api"
	"wisp/carts"
	"wisp/console"
	"wisp/vm"
)

func TestFramesWithoutACartridge(t *testing.T) { // 19.5: NoCart, all idle, blank, whatever the gamepad; none is counted
	for _, budget := range []int{4, 100, 16384} {
		c := made(t, budget)
		for pad := range 256 {
			wantOut(t, "Frame", c.Frame(uint8(pad)), blank(budget))
		}
		for _, o := range c.Play(anyPads(rand.New(rand.NewSource(191)), 40)...) {
			wantOut(t, "Play", o, blank(budget))
		}
		wantStatus(t, c, noCart, none, 0)
		wantSource(t, c, busy)
		wantStatus(t, c, running, none, 0)
	}
}

func TestFrames(t *testing.T) { // 19.5: the machine's frame of the budget, of this gamepad, and one more has been played
	r := rand.New(rand.NewSource(192))
	for range 200 {
		budget := carts.Budget(r)
		b := imageOfCart(t, anyCart(t, r))
		c, m := made(t, budget), machineOf(t, b)
		if e := c.Load(b); e != fine {
			t.Fatalf("19.2: Load = %d", e)
		}
		for n := range 20 {
			pad := uint8(r.Intn(256))
			want, _ := m.Frame(pad, budget)
			wantOut(t, "19.5", c.Frame(pad), want)
			wantStatus(t, c, want.Status, want.Fault, n+1)
		}
		wantStands(t, "19.5", c, m)
	}
}

func TestTheGamepadIsThatOfTheFrame(t *testing.T) { // 19.5
	c := playing(t, 100, ": main begin pad 0 0 plot 7 pad tone pad 0 0 plot yield again ;")
	d := playing(t, 100, ": main begin pad 49152 c! yield again ;")
	for pad := range 256 {
		if o := d.Frame(uint8(pad)); int(o.Screen[0]) != pad {
			t.Fatalf("the gamepad %d is seen as %d", pad, o.Screen[0])
		}
		if o := c.Frame(uint8(pad)); len(o.Tones) != 1 || int(o.Tones[0].Volume) != pad || o.Tones[0].Pitch != 7 {
			t.Fatalf("the gamepad %d is heard as %v", pad, o.Tones)
		}
	}
}

func TestManyFrames(t *testing.T) { // 19.5, 19.6: the count, behind what a cell holds; that of the memory begins again there
	c := playing(t, 4, ": main begin yield again ;")
	c.Play(make([]uint8, 3)...)
	for range 65536 + 5 {
		c.Frame(1)
	}
	wantStatus(t, c, running, none, 65536+8)
	if at := c.Machine().Memory().Image().Time; at != 8 {
		t.Errorf("Time is %d", at)
	}
}

func TestTheGreatestCount(t *testing.T) { // 19.5, 19.6: up to 9223372036854775807; frames are played behind that too
	d := playing(t, 100, busy)
	m := d.Machine()
	c, e := console.Restore(100, d.Cart(), greatestCount-2, m.State(), m.Memory().Image())
	if e != fine {
		t.Fatalf("19.7: Restore = %d", e)
	}
	for n := range 2 {
		wantOut(t, "the last that are counted", c.Frame(5), d.Frame(5))
		wantStatus(t, c, running, none, greatestCount-1+n)
	}
	for range 5 {
		wantOut(t, "those that are not", c.Frame(6), d.Frame(6))
	}
	// How many there have been is free now; that it may be told, and that what is told can be restored, is asked here.
	_, _, frames := c.Status()
	m = c.Machine()
	if x, e := console.Restore(100, c.Cart(), frames, m.State(), m.Memory().Image()); e != fine {
		t.Errorf("Restore behind %d frames = %d", frames, e)
	} else {
		wantOut(t, "restored", x.Frame(7), c.Frame(7))
	}
	c.Reset()
	wantStatus(t, c, running, none, 0)
}

func TestPlay(t *testing.T) { // 19.5, 19.8: Frame of each, in their order, however they are cut into calls
	r := rand.New(rand.NewSource(193))
	for range 150 {
		budget := carts.Budget(r)
		src := anySource(r)
		one, all, some := playing(t, budget, src), playing(t, budget, src), playing(t, budget, src)
		pads := anyPads(r, r.Intn(40))
		var want []api.Out
		for _, pad := range pads {
			want = append(want, one.Frame(pad))
		}
		got := all.Play(pads...)
		var parts []api.Out
		for rest := pads; len(rest) > 0; {
			n := r.Intn(len(rest) + 1)
			parts = append(parts, some.Play(rest[:n]...)...)
			rest = rest[n:]
		}
		if !slices.EqualFunc(got, want, sameOut) || !slices.EqualFunc(parts, want, sameOut) {
			t.Fatalf("19.8: %s: Play is not Frame of each", src)
		}
		for _, c := range []*console.Console{all, some} {
			wantStands(t, "19.8", c, one.Machine())
			status, fault, frames := one.Status()
			wantStatus(t, c, status, fault, frames)
		}
	}
}

func TestPlayOfNothing(t *testing.T) { // 19.5: no gamepads: no frames, and nothing has changed
	c := playing(t, 100, busy)
	c.Play(1, 2)
	m := c.Machine()
	for range 3 {
		if outs := c.Play(); len(outs) != 0 {
			t.Errorf("Play() = %d outs", len(outs))
		}
		if outs := c.Play([]uint8{}...); len(outs) != 0 {
			t.Errorf("Play of an empty list = %d outs", len(outs))
		}
	}
	wantStands(t, "Play()", c, m)
	wantStatus(t, c, running, none, 2)
	if outs := made(t, 4).Play(); len(outs) != 0 {
		t.Errorf("without a cartridge: Play() = %d outs", len(outs))
	}
}

func TestPlayTellsEachFrame(t *testing.T) { // 19.5: one gamepad, as many as there may be of a recording
	c := playing(t, 16, ": main begin pad 49152 c! yield again ;")
	pads := anyPads(rand.New(rand.NewSource(194)), 1024)
	outs := c.Play(pads...)
	if len(outs) != 1024 {
		t.Fatalf("%d outs", len(outs))
	}
	for i, o := range outs {
		if o.Screen[0] != pads[i] {
			t.Fatalf("frame %d: the gamepad %d is seen as %d", i, pads[i], o.Screen[0])
		}
	}
	if outs := c.Play(77); len(outs) != 1 || outs[0].Screen[0] != 77 {
		t.Errorf("Play(77) = %d outs", len(outs))
	}
	wantStatus(t, c, running, none, 1025)
}

// wantSticky asks of a console behind a frame that all later ones are as 19.9 says.
func wantSticky(t *testing.T, what string, r *rand.Rand, c *console.Console, last api.Out) {
	t.Helper()
	_, _, played := c.Status()
	want := api.Out{Status: last.Status, Fault: last.Fault, Idle: c.Budget(), Screen: last.Screen}
	for n := range 12 {
		wantOut(t, "19.9: "+what, c.Frame(uint8(r.Intn(256))), want)
		wantStatus(t, c, last.Status, last.Fault, played+n+1)
	}
	for _, o := range c.Play(anyPads(r, 5)...) {
		wantOut(t, "19.9: "+what, o, want)
	}
	wantOut(t, "19.9: a copy, "+what, c.Copy().Frame(3), want)
	m := c.Machine()
	x, e := console.Restore(c.Budget(), c.Cart(), played, m.State(), m.Memory().Image())
	if e != fine {
		t.Fatalf("19.7: %s: Restore = %d", what, e)
	}
	wantOut(t, "19.9: restored, "+what, x.Frame(3), want)
}

// until plays frames until one does not run, and tells it.
func until(r *rand.Rand, c *console.Console, most int) (api.Out, bool) {
	for range most {
		if o := c.Frame(uint8(r.Intn(256))); o.Status != running {
			return o, true
		}
	}
	return api.Out{}, false
}

func TestSticky(t *testing.T) { // 19.9: until Load, Source, Reset or Eject
	r := rand.New(rand.NewSource(199))
	ends := map[api.Fault]int{}
	halts := 0
	for range 600 {
		inside := anyCart(t, r)
		b := imageOfCart(t, inside)
		c := made(t, carts.Budget(r))
		c.Load(b)
		last, ended := until(r, c, 60)
		if !ended {
			continue
		}
		if ends[last.Fault]++; last.Status == halted {
			halts++
		}
		wantSticky(t, "any", r, c, last)
		switch r.Intn(5) {
		case 0:
			c.Load(b)
		case 1:
			wantSource(t, c, busy)
			b = imageOf(t, busy)
		case 2:
			c.Reset()
		case 3:
			c.Load(b)
			c.Reset()
		default:
			c.Eject()
			wantEmpty(t, "Eject", c)
			continue
		}
		wantStatus(t, c, running, none, 0)
		wantStands(t, "a cartridge that begins anew", c, machineOf(t, b))
	}
	for fault := range api.Fault(8) {
		if ends[fault] == 0 && fault != over && fault != 4 {
			t.Errorf("no life has ended with the fault %d: they are too much alike", fault)
		}
	}
	if halts < 20 {
		t.Errorf("%d have halted", halts)
	}
}

func TestStickyPixels(t *testing.T) { // 19.9: what the last frame showed stays; its tones do not; so of each status and of each fault
	for src, want := range map[string][2]int{
		": main 5 5 7 plot 1 2 tone ;":                  {2, 0},
		": main 5 5 7 plot 1 2 tone halt begin again ;": {2, 0},
		": main 5 5 7 plot 1 2 tone drop ;":             {3, 1},
		": main 5 5 7 plot 1 2 tone begin 1 again ;":    {3, 2},
		": main 5 5 7 plot 1 2 tone r> ;":               {3, 3},
		": main 5 5 7 plot 1 2 tone begin 1 >r again ;": {3, 4},
		": main 5 5 7 plot 1 2 tone 1 >r exit ;":        {3, 5},
	} {
		c := playing(t, 16384, src)
		o := c.Frame(9)
		if int(o.Status) != want[0] || int(o.Fault) != want[1] || o.Screen[64*5+5] != 7 || len(o.Tones) != 1 {
			t.Fatalf("%s: %d, %d, %v", src, o.Status, o.Fault, o.Tones)
		}
		wantSticky(t, src, rand.New(rand.NewSource(1)), c, o)
	}
	for thread, fault := range map[uint16]api.Fault{0: 6, 20000: 7, 131: 7} {
		c := made(t, 4)
		c.Load(imageOfCart(t, carts.Of(128, 1, 18, thread)))
		o := c.Frame(9)
		if o.Status != faulted || o.Fault != fault || o.Spent != 1 {
			t.Fatalf("the thread %d: %d, %d, spent %d", thread, o.Status, o.Fault, o.Spent)
		}
		wantSticky(t, "a thread", rand.New(rand.NewSource(1)), c, o)
	}
}

func TestReset(t *testing.T) { // 19.6, 19.8: it plays what it played at first, from wherever it stands
	r := rand.New(rand.NewSource(198))
	for range 150 {
		c := made(t, carts.Budget(r))
		b := imageOfCart(t, anyCart(t, r))
		c.Load(b)
		pads := anyPads(r, 1+r.Intn(30))
		first := c.Play(pads...)
		for range 3 {
			c.Play(anyPads(r, r.Intn(10))...)
			c.Reset()
			wantStatus(t, c, running, none, 0)
			wantStands(t, "Reset", c, machineOf(t, b))
			if !bytes.Equal(c.Cart(), b) {
				t.Fatal("19.6: behind Reset another cartridge is in")
			}
			if again := c.Play(pads...); !slices.EqualFunc(again, first, sameOut) {
				t.Fatal("19.8: behind Reset other frames are played")
			}
		}
	}
}

func TestResetOfBanks(t *testing.T) { // 19.6: they have the cartridge's bytes again, the screen is blank, bank 0 is chosen
	c := playing(t, 400, busy)
	first := c.Play(1, 2, 3, 4)
	if first[0].Screen[64*4+3] != 6 || first[3].Screen[64*4+3] != 9 {
		t.Fatalf("the tests' own: %d, %d", first[0].Screen[64*4+3], first[3].Screen[64*4+3])
	}
	c.Reset()
	c.Reset()
	x := c.Machine().Memory().Image()
	if x.Banks[0].Data[0] != 5 || x.Chosen != 0 || x.Time != 0 || x.Volume != 0 || x.Pitch != 0 || x.Pad != 0 || slices.Max(x.Screen) != 0 || slices.Max(x.Ram) != 0 {
		t.Error("19.6: behind Reset the memory is not as at first")
	}
	if s := c.Machine().State(); !sameState(s, vm.State{At: s.At, Status: running}) {
		t.Errorf("19.6: behind Reset the machine stands %v", s)
	}
}
