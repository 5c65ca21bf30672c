package console_test

import (
	"bytes"
	"math/rand"
	"testing"

	"wisp/api"
	"wisp/carts"
	"wisp/check"
	"wisp/console"
	"wisp/vm"
)

func TestEject(t *testing.T) { // 19.6: there is no cartridge, whatever was in; the budget stays
	for _, ahead := range lives() {
		c := made(t, 321)
		ahead.put(t, c)
		for range 2 {
			c.Eject()
			wantStatus(t, c, noCart, none, 0)
			wantEmpty(t, "Eject behind "+ahead.what, c)
		}
		if c.Budget() != 321 {
			t.Errorf("Budget() = %d", c.Budget())
		}
		wantSource(t, c, ": main 7 drop ;")
		wantFrame(t, c, halted, none, 3, 5)
	}
}

func TestStatus(t *testing.T) { // 19.6: the machine's, behind each frame, and how many there have been
	c := playing(t, 4, ": main 1 drop 2 drop yield 3 drop ;")
	wantStatus(t, c, running, none, 0)
	for n, status := range []api.Status{running, running, running, halted, halted} {
		if o := c.Frame(0); o.Status != status {
			t.Errorf("frame %d: %d", n, o.Status)
		}
		wantStatus(t, c, status, none, n+1)
	}
	c.Load(imageOf(t, ": main drop ;"))
	wantStatus(t, c, running, none, 0)
	c.Play(0, 0)
	wantStatus(t, c, faulted, under, 2)
}

func TestBudget(t *testing.T) { // 19.6, 19.5: as New was told, whatever comes
	for _, budget := range []int{4, 5, 7, 1000, 16384} {
		c := made(t, budget)
		for _, ahead := range lives() {
			ahead.put(t, c)
			if c.Budget() != budget || c.Copy().Budget() != budget {
				t.Errorf("behind %s: Budget() = %d, %d of a copy, want %d", ahead.what, c.Budget(), c.Copy().Budget(), budget)
			}
			if o := c.Frame(0); o.Spent+o.Idle != budget {
				t.Errorf("behind %s: a frame of %d and %d cycles, want %d", ahead.what, o.Spent, o.Idle, budget)
			}
		}
	}
}

func TestCart(t *testing.T) { // 19.6: the bytes that were put in, wherever the machine stands; none without one
	c := made(t, 100)
	if len(c.Cart()) != 0 {
		t.Error("New: there are bytes")
	}
	for _, src := range []string{": main ;", busy, ": main drop ;"} {
		b := imageOf(t, src)
		wantSource(t, c, src)
		for range 3 {
			if !bytes.Equal(c.Cart(), b) {
				t.Errorf("%s: other bytes", src)
			}
			c.Frame(1)
		}
		c.Reset()
		if !bytes.Equal(c.Cart(), b) || !bytes.Equal(c.Copy().Cart(), b) {
			t.Errorf("%s: other bytes behind Reset, or of a copy", src)
		}
	}
}

// calls are those that change a console.
func calls(r *rand.Rand) map[string]func(c *console.Console) {
	return map[string]func(c *console.Console){
		"Frame":            func(c *console.Console) { c.Frame(uint8(r.Intn(256))) },
		"Play":             func(c *console.Console) { c.Play(anyPads(r, 7)...) },
		"Load":             func(c *console.Console) { c.Load(c.Cart()) },
		"a refused Load":   func(c *console.Console) { c.Load(nil) },
		"Source":           func(c *console.Console) { c.Source(": main 1 2 3 plot ;") },
		"a refused Source": func(c *console.Console) { c.Source(": main") },
		"Reset":            func(c *console.Console) { c.Reset() },
		"Eject":            func(c *console.Console) { c.Eject() },
		"its machine": func(c *console.Console) {
			m := c.Machine()
			for range 9 {
				m.Step()
				m.Frame(7, 100)
			}
			for at := 0x4000; m != nil && at < 0xcc00; at++ {
				m.Memory().Store(uint16(at), 222)
			}
			m.Memory().Play(5, 6)
		},
		"a write over its bytes": func(c *console.Console) {
			b := c.Cart()
			for i := range b {
				b[i] = 222
			}
		},
		"a copy's Frame": func(c *console.Console) { c.Copy().Copy().Frame(5) },
	}
}

// stood is all that a console tells of itself, so that it can be asked later whether that has changed.
type stood struct {
	cart    []byte
	machine *vm.Machine
	status  api.Status
	fault   api.Fault
	frames  int
	verdict api.Verdict
}

func standing(c *console.Console) stood {
	s := stood{cart: bytes.Clone(c.Cart()), machine: c.Machine(), verdict: c.Check()}
	s.status, s.fault, s.frames = c.Status()
	return s
}

// wantStood asks that it has not changed.
func (s stood) wantStood(t *testing.T, what string, c *console.Console) {
	t.Helper()
	if !bytes.Equal(c.Cart(), s.cart) || c.Check() != s.verdict {
		t.Fatalf("%s: another cartridge is in", what)
	}
	wantStatus(t, c, s.status, s.fault, s.frames)
	if s.machine != nil {
		wantStands(t, what, c, s.machine)
	} else if c.Machine() != nil {
		t.Fatalf("%s: there is a machine", what)
	}
}

func TestCopy(t *testing.T) { // 19.6: the same, and from then on neither sees the other
	r := rand.New(rand.NewSource(196))
	for _, ahead := range lives() {
		for what, call := range calls(r) {
			what += " behind " + ahead.what
			for _, second := range []bool{false, true} {
				c := made(t, 60)
				ahead.put(t, c)
				s := standing(c)
				d := c.Copy()
				s.wantStood(t, what+": Copy", d)
				s.wantStood(t, what+": what was copied", c)
				one, two := c, d
				if second {
					one, two = d, c
				}
				call(one)
				s.wantStood(t, what+": the other one", two)
				wantSame(t, what, two, s)
			}
		}
	}
}

// wantSame asks that a console plays what one that stands there does.
func wantSame(t *testing.T, what string, c *console.Console, s stood) {
	t.Helper()
	for pad := range uint8(6) {
		want := blank(c.Budget())
		if s.machine != nil {
			want, _ = s.machine.Frame(pad, c.Budget())
		}
		wantOut(t, what, c.Frame(pad), want)
	}
}

func TestCopiesPlayTheSame(t *testing.T) { // 19.6: of any cartridges, behind any frames; each goes its own way then
	r := rand.New(rand.NewSource(197))
	for range 150 {
		c := made(t, carts.Budget(r))
		c.Load(imageOfCart(t, anyCart(t, r)))
		c.Play(anyPads(r, r.Intn(12))...)
		d := c.Copy()
		pads := anyPads(r, 12)
		var want []api.Out
		for _, pad := range pads {
			want = append(want, c.Frame(pad))
			d.Copy().Frame(pad + 1)
		}
		for i, o := range d.Play(pads...) {
			wantOut(t, "19.6: a copy", o, want[i])
		}
		wantStands(t, "19.6: a copy", d, c.Machine())
		_, _, n := c.Status()
		if _, _, m := d.Status(); m != n {
			t.Fatalf("19.6: %d frames, of the copy %d", n, m)
		}
	}
}

func TestMachine(t *testing.T) { // 19.6: a copy, new at each call: what is done to it is nothing to the console, and the other way round
	r := rand.New(rand.NewSource(195))
	for _, ahead := range lives() {
		c := made(t, 60)
		ahead.put(t, c)
		one, two := c.Machine(), c.Machine()
		if one == nil {
			if two != nil || len(c.Cart()) > 0 {
				t.Errorf("behind %s there is no machine", ahead.what)
			}
			continue
		}
		s := standing(c)
		calls(r)["its machine"](c)
		s.wantStood(t, "its machine behind "+ahead.what, c)
		one.Frame(1, 100)
		one.Memory().Store(0x8000, 99)
		wantStands(t, "the other machine's", c, two)
		was := two.Copy()
		c.Play(5, 6, 7)
		if !sameState(two.State(), was.State()) || !sameImage(two.Memory().Image(), was.Memory().Image()) {
			t.Errorf("behind %s the machine sees what the console plays", ahead.what)
		}
		for _, pad := range []uint8{5, 6, 7} {
			two.Frame(pad, 60)
		}
		wantStands(t, "behind "+ahead.what, c, two)
	}
}

func TestOnlyTheCheckerJudges(t *testing.T) { // 19.2: whether a cartridge is accepted does not matter to Load
	r := rand.New(rand.NewSource(201))
	accepted, refused := 0, 0
	for range 300 {
		inside := anyCart(t, r)
		c := made(t, 30)
		if e := c.Load(imageOfCart(t, inside)); e != fine {
			t.Fatalf("19.2: Load = %d", e)
		}
		v := c.Check()
		if want := check.Check(inside); v != want {
			t.Fatalf("19.4: Check() = %v, want %v", v, want)
		}
		if v.Err == fine {
			accepted++
		} else {
			refused++
		}
		wantStatus(t, c, running, none, 0)
	}
	if accepted < 60 || refused < 60 {
		t.Errorf("%d are accepted, %d are not", accepted, refused)
	}
}
