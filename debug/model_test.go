package debug_test

import (
	"cmp"
	"maps"
	"slices"
	"testing"

	"wisp/api"
	"wisp/debug"
	"wisp/vm"
)

// life is chapter 25 said a second time: where everything stands behind each number of steps. How many steps a frame has is asked of vm's own Frame.
type life struct {
	moments []moment // moments[n]: behind n steps
	played  *vm.Machine
	spent   int // by all frames
}

// moment is where a life stands. Nobody does anything to its machine.
type moment struct {
	machine *vm.Machine
	state   vm.State
	frames  int
	profile map[uint16]int
}

// lifeOf plays a cartridge by vm alone.
func lifeOf(t *testing.T, c api.Cart, budget int, pads []uint8) *life {
	t.Helper()
	m, e := vm.New(c)
	if e != fine {
		t.Fatalf("the tests' own cartridge: %d", e)
	}
	l := &life{played: m.Copy()}
	words, profile := []uint16{c.Entry}, map[uint16]int{c.Entry: 0}
	frames := 0
	keep := func() {
		l.moments = append(l.moments, moment{m.Copy(), m.State(), frames, maps.Clone(profile)})
	}
	keep()
	for _, pad := range pads {
		if m.State().Status != running {
			break
		}
		steps := l.frame(t, pad, budget)
		for n := range steps {
			if n == 0 {
				m.Memory().Begin(pad)
				frames++
			}
			p, x, _ := m.Look()
			m.Step()
			if m.State().Status == faulted {
				p = api.Prim{}
			}
			words = spend(words, profile, p, x)
			keep()
		}
	}
	return l
}

// frame plays a frame as vm does; how many steps it has, with the one that faults.
func (l *life) frame(t *testing.T, pad uint8, budget int) int {
	t.Helper()
	o, e := l.played.Frame(pad, budget)
	if e != fine {
		t.Fatalf("the tests' own budget %d: %d", budget, e)
	}
	l.spent += o.Spent
	if o.Status == faulted {
		return o.Steps + 1
	}
	return o.Steps
}

// spend counts an instruction in the innermost of these words; the words behind it.
func spend(words []uint16, profile map[uint16]int, p api.Prim, x uint16) []uint16 {
	profile[words[len(words)-1]] += p.Cost
	switch {
	case p.Op == 1:
		words = append(words, x-2)
		profile[x-2] += 0
	case p.Op == 8 && len(words) > 1:
		words = words[:len(words)-1]
	}
	return words
}

// end is how many steps there are.
func (l *life) end() int { return len(l.moments) - 1 }

// run says 25.5, with all watched bytes read ahead of each step and behind it.
func (l *life) run(n int, stops, watches map[uint16]bool) (why, steps int) {
	for n < l.end() {
		ahead, behind := l.moments[n], l.moments[n+1]
		n++
		if behind.state.Status == faulted {
			return 3, n
		}
		for at := range watches {
			if ahead.machine.Memory().Load(at) != behind.machine.Memory().Load(at) {
				return 2, n
			}
		}
		if behind.state.Status == running && stops[behind.state.At] {
			return 1, n
		}
	}
	return 0, n
}

// listed is a profile as 25.7 tells it.
func listed(profile map[uint16]int) []debug.Spent {
	var all []debug.Spent
	for at, cycles := range profile {
		all = append(all, debug.Spent{At: at, Cycles: cycles})
	}
	slices.SortFunc(all, func(a, b debug.Spent) int { return cmp.Compare(a.At, b.At) })
	return all
}

func sameState(one, two vm.State) bool {
	return one.At == two.At && one.Status == two.Status && one.Fault == two.Fault && slices.Equal(one.Data, two.Data) && slices.Equal(one.Return, two.Return)
}

// wantThere asks that a session stands where its life does behind n steps: all that it tells, every byte.
func (l *life) wantThere(t *testing.T, what string, s *debug.Session, n int) {
	t.Helper()
	m := l.moments[n]
	if steps, frames := s.Count(); steps != n || frames != m.frames {
		t.Fatalf("25.6: %.400s: Count() = %d, %d, want %d, %d", what, steps, frames, n, m.frames)
	}
	if got := s.State(); !sameState(got, m.state) {
		t.Fatalf("25.9: %.400s: behind %d steps State() = %v, want %v", what, n, got, m.state)
	}
	if got := s.Profile(); !slices.Equal(got, listed(m.profile)) {
		t.Fatalf("25.7: %.400s: behind %d steps Profile() = %v, want %v", what, n, got, listed(m.profile))
	}
	memory := m.machine.Memory()
	for at := range 65536 {
		if got, want := s.Peek(uint16(at)), memory.Load(uint16(at)); got != want {
			t.Fatalf("25.9: %.400s: behind %d steps Peek(%#x) = %d, want %d", what, n, at, got, want)
		}
	}
}

// sum is what all words have spent.
func sum(profile []debug.Spent) int {
	cycles := 0
	for _, x := range profile {
		cycles += x.Cycles
	}
	return cycles
}
