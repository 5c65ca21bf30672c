package console_test

import (
	"bytes"
	"fmt"
	"math/rand"
	"testing"

	"wisp/api"
	"wisp/cart"
	"wisp/carts"
	"wisp/check"
	"wisp/comp"
	"wisp/console"
	"wisp/vm"
)

// model says chapter 19 once more: a console's cartridge as an image, its machine, which others made, and the frames.
type model struct {
	budget, frames int
	image          []byte
	machine        *vm.Machine
}

func (m *model) put(image []byte) api.Errno {
	*m = model{budget: m.budget}
	inside, e := cart.Decode(image)
	if e == fine {
		m.image = bytes.Clone(image)
		m.machine, _ = vm.New(inside)
	}
	return e
}

func (m *model) frame(pad uint8) api.Out {
	if m.machine == nil {
		return blank(m.budget)
	}
	m.frames++
	o, _ := m.machine.Frame(pad, m.budget)
	return o
}

func (m *model) copy() *model {
	twin := *m
	twin.machine = m.machine.Copy()
	return &twin
}

// hold holds all that a console tells to the model.
func (m *model) hold(t *testing.T, what string, c *console.Console) {
	t.Helper()
	if c.Budget() != m.budget || !bytes.Equal(c.Cart(), m.image) {
		t.Fatalf("%s: the budget %d, want %d; or another cartridge", what, c.Budget(), m.budget)
	}
	if m.machine == nil {
		wantStatus(t, c, noCart, none, 0)
		if c.Machine() != nil || c.Check() != (api.Verdict{Err: noHandle}) {
			t.Fatalf("%s: there is no cartridge, and Check() = %v", what, c.Check())
		}
		return
	}
	s := m.machine.State()
	wantStatus(t, c, s.Status, s.Fault, m.frames)
	wantStands(t, what, c, m.machine)
	inside, _ := cart.Decode(m.image)
	if v, want := c.Check(), check.Check(inside); v != want {
		t.Fatalf("%s: Check() = %v, want %v", what, v, want)
	}
}

// pair is a console and its model.
type pair struct {
	*console.Console
	model *model
}

// load puts an image in, now and then one that is refused.
func (p pair) load(t *testing.T, r *rand.Rand) {
	t.Helper()
	b := imageOfCart(t, anyCart(t, r))
	if r.Intn(4) == 0 {
		b = b[:r.Intn(len(b))]
	}
	if e, want := p.Load(b), p.model.put(b); e != want {
		t.Fatalf("19.2: Load = %d, want %d", e, want)
	}
}

// source puts one in, now and then one that is refused.
func (p pair) source(t *testing.T, r *rand.Rand) {
	t.Helper()
	src := anySource(r)
	if r.Intn(4) == 0 {
		src = spoiltSource(r)
	}
	b, at, e := comp.Compile(src)
	p.model.put(b)
	if got, f := p.Source(src); got != at || f != e {
		t.Fatalf("19.3: Source(%.300q) = %v, %d, want %v, %d", src, got, f, at, e)
	}
}

func (p pair) play(t *testing.T, r *rand.Rand) {
	t.Helper()
	pads := anyPads(r, r.Intn(6))
	outs := p.Play(pads...)
	if len(outs) != len(pads) {
		t.Fatalf("19.5: %d outs of %d gamepads", len(outs), len(pads))
	}
	for i, pad := range pads {
		wantOut(t, "19.5: Play", outs[i], p.model.frame(pad))
	}
}

// restored is the pair with another console, that has been restored; its machine has no tones.
func (p pair) restored(t *testing.T) pair {
	t.Helper()
	if p.model.machine == nil {
		return p
	}
	s := savedOf(p.Console)
	inside, _ := cart.Decode(s.cart)
	m := p.model.copy()
	m.machine, _ = vm.Restore(inside, s.state, s.image)
	return pair{s.restored(t), m}
}

// some does one of the calls, and tells which.
func (p pair) some(t *testing.T, r *rand.Rand) string {
	t.Helper()
	switch n := r.Intn(24); {
	case n < 2:
		p.load(t, r)
		return "Load"
	case n < 4:
		p.source(t, r)
		return "Source"
	case n == 4:
		p.Reset()
		if m := p.model; m.machine != nil {
			m.put(m.image)
		}
		return "Reset"
	case n == 5:
		p.Eject()
		*p.model = model{budget: p.model.budget}
		return "Eject"
	case n < 13:
		p.play(t, r)
		return "Play"
	}
	pad := uint8(r.Intn(256))
	wantOut(t, "19.5: Frame", p.Frame(pad), p.model.frame(pad))
	return "Frame"
}

func TestAnyCalls(t *testing.T) { // 19.2 to 19.9, R5: some consoles side by side, copies and restored ones among them, and any calls of each
	inParts(t, 1990, func(t *testing.T, r *rand.Rand) {
		budget := carts.Budget(r)
		all := []pair{{made(t, budget), &model{budget: budget}}, {made(t, 100), &model{budget: 100}}, {made(t, 16384), &model{budget: 16384}}}
		for n := range 1200 {
			i := r.Intn(len(all))
			what := all[i].some(t, r)
			switch r.Intn(20) {
			case 0:
				all[r.Intn(len(all))] = pair{all[i].Copy(), all[i].model.copy()}
				what += " and a copy"
			case 1:
				all[r.Intn(len(all))] = all[i].restored(t)
				what += " and Restore"
			}
			for k, p := range all {
				p.model.hold(t, fmt.Sprintf("%s, call %d, seen by %d of %d", what, n, k, i), p.Console)
			}
		}
	})
}
