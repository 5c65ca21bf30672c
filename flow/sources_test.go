package flow_test

import (
	"fmt"
	"math/rand"
	"slices"
	"strings"
	"testing"

	"wisp/api"
	"wisp/emit"
	"wisp/flow"
	"wisp/layout"
	"wisp/sources"
	"wisp/tree"
)

// meant tells a program's words by its tree and DOC.md's table of what a node comes to: the code is not looked at.
type meant struct {
	defs   map[string]api.Def
	at     map[string]layout.Place
	instrs []flow.Instr // of the word that is gone through
}

func newMeant(p api.Program) *meant {
	m := &meant{defs: map[string]api.Def{}, at: map[string]layout.Place{}}
	places, _, _, _, _ := layout.Of(p)
	for i, d := range p.Defs {
		m.defs[d.Name], m.at[d.Name] = d, places[i]
	}
	return m
}

// put is an instruction, if one comes to it; the address behind it is told.
func (m *meant) put(come bool, at uint16, op int, operand ...uint16) uint16 {
	x := flow.Instr{At: at, Op: op, Next: at + 2}
	if len(operand) > 0 {
		x.Operand, x.Next = operand[0], at+4
	}
	if come {
		m.instrs = append(m.instrs, x)
	}
	return x.Next
}

func (m *meant) name(come bool, at uint16, name string) {
	x := flow.Instr{At: at, Op: 1, Word: m.at[name].At, Next: at + 2}
	switch m.defs[name].Kind {
	case 2:
		x.Op, x.Operand = 2, m.defs[name].Value
	case 3:
		x.Op, x.Operand = 2, m.at[name].Ram
	}
	if come {
		m.instrs = append(m.instrs, x)
	}
}

// body goes through nodes that lie from an address on, and tells the address behind them, and whether one comes to there.
func (m *meant) body(list []api.Node, at uint16, come bool) (uint16, bool) {
	for _, n := range list {
		at, come = m.node(n, at, come)
	}
	return at, come
}

func (m *meant) node(n api.Node, at uint16, come bool) (uint16, bool) {
	switch n.Kind {
	case 1:
		return m.put(come, at, n.Op), come && n.Op != 11
	case 2:
		return m.put(come, at, 3, n.Value), come
	case 3:
		m.name(come, at, n.Name)
		return at + 2, come
	case 4:
		return m.choice(n, at, come)
	case 5:
		a, comes := m.body(n.Then, at, come)
		return m.put(comes, a, 5, at), comes
	case 6:
		a, comes := m.body(n.Then, at, come)
		b, back := m.body(n.Else, a+4, comes)
		m.put(comes, a, 5, b+4)
		return m.put(back, b, 4, at), comes
	case 7:
		a, comes := m.body(n.Then, at, come)
		return m.put(comes, a, 4, at), false
	case 8:
		first := m.put(come, at, 6)
		a, comes := m.body(n.Then, first, come)
		return m.put(comes, a, 7, first), comes
	}
	return m.put(come, at, 8), false
}

func (m *meant) choice(n api.Node, at uint16, come bool) (uint16, bool) {
	a, comes := m.body(n.Then, at+4, come)
	if !n.Has {
		m.put(come, at, 5, a)
		return a, come
	}
	b, also := m.body(n.Else, a+4, come)
	m.put(come, at, 5, a+4)
	m.put(comes, a, 4, b)
	return b, comes || also
}

func (m *meant) word(name string) flow.Word {
	m.instrs = nil
	at := m.at[name].At
	end, come := m.body(m.defs[name].Body, at+2, true)
	m.put(come, end, 8)
	w := flow.Word{At: at, Instrs: m.instrs}
	slices.SortFunc(w.Instrs, func(a, b flow.Instr) int { return int(a.At) - int(b.At) })
	for _, x := range w.Instrs {
		if x.Op == 1 {
			w.Calls = append(w.Calls, x.Word)
		}
	}
	slices.Sort(w.Calls)
	w.Calls = slices.Compact(w.Calls)
	return w
}

// words are main and those that are called where one comes to, whoever calls them.
func (m *meant) words() []flow.Word {
	found := []flow.Word{m.word("main")}
	for i := 0; i < len(found); i++ {
		for name, p := range m.at {
			known := slices.ContainsFunc(found, func(w flow.Word) bool { return w.At == p.At })
			if slices.Contains(found[i].Calls, p.At) && !known {
				found = append(found, m.word(name))
			}
		}
	}
	slices.SortFunc(found, func(a, b flow.Word) int { return int(a.At) - int(b.At) })
	return found
}

// wantMeant asks that a source's words are those of its tree, and that each is told behind those that it calls; it tells them.
func wantMeant(t *testing.T, src string) []flow.Word {
	t.Helper()
	p, _, e := tree.Parse(src)
	c, f := emit.Cart(p)
	if e != fine || f != fine {
		t.Fatalf("the tests' own %s: %d, %d", src, e, f)
	}
	want := newMeant(p).words()
	ws, v := flow.Words(c)
	if v != (api.Verdict{}) || !alike(ws, want) {
		t.Fatalf("P16.7: %s: %v, %v, want %v", src, ws, v, want)
	}
	order, v := flow.Order(ws)
	if v != (api.Verdict{}) || len(order) != len(ws) || order[len(order)-1] != c.Entry {
		t.Fatalf("P16.7: %s: Order = %v, %v", src, order, v)
	}
	for _, w := range ws {
		here := slices.Index(order, w.At)
		for _, at := range w.Calls {
			if i := slices.Index(order, at); here < 0 || i < 0 || i >= here {
				t.Fatalf("P16.7: %s: Order = %v: %d calls %d", src, order, w.At, at)
			}
		}
	}
	return ws
}

func TestSources(t *testing.T) { // P16.7: any
	r := rand.New(rand.NewSource(167))
	many, unreached := 0, 0
	for i := range 4000 {
		src := sources.New(r).Some()
		if i%4 == 0 {
			src = sources.NewLively(r).Program(r.Intn(12))
		}
		p, _, _ := tree.Parse(src)
		defined := 0
		for _, d := range p.Defs {
			if d.Kind == 1 {
				defined++
			}
		}
		ws := wantMeant(t, src)
		if len(ws) > 1 {
			many++
		}
		if len(ws) < defined {
			unreached++
		}
	}
	if many < 1000 || unreached < 1000 {
		t.Errorf("%d with several words, %d with words that are not reached", many, unreached)
	}
}

func TestWhichWordsAreReached(t *testing.T) { // P16.7: a and b are defined ahead of main; those that are told
	const a, b = 1, 2
	for src, want := range map[string]int{
		": main ;":                                   0,
		": main a b ;":                               a + b,
		": main a exit b ;":                          a,
		": main a halt b ;":                          a,
		": main begin a again b ;":                   a,
		": main begin halt again b ;":                0,
		": main 1 if exit b then a ;":                a,
		": main 1 if halt else a then b ;":           a + b,
		": main 1 if halt b else exit a then b ;":    0,
		": main 1 if exit else halt then a b ;":      0,
		": main 1 if exit else a then b ;":           a + b,
		": main begin exit 1 until b ;":              0,
		": main begin halt while a repeat b ;":       0,
		": main begin 1 while exit a repeat b ;":     b,
		": main begin 1 while a exit repeat b ;":     a + b,
		": main begin 1 if a exit then 1 until ;":    a,
		": main begin begin a again b again b ;":     a,
		": main 1 if begin a again then b ;":         a + b,
		": main 2 0 do a loop b ;":                   a + b,
		": main 2 0 do halt loop b ;":                0,
		": main 2 0 do begin yield again a loop b ;": 0,
		": main 2 0 do 1 if halt then a loop b ;":    a + b,
		": c a halt b ; : main c b ;":                a + b,
		": c a halt b ; : main c ;":                  a,
		": c halt ; : main c a ;":                    a,
		": c begin again ; : main c a ;":             a,
		": c exit a ; : main c b ;":                  b,
		": c a ; : main exit c b ;":                  0,
		": c a ; : d c b ; : main ;":                 0,
		": c a ; : d c ; : e d d ; : main e ;":       a,
		": c halt a ; : d c b ; : main d d c ;":      b,
		": main ; : c a b ;":                         0,
		": main a ; : c main b ;":                    a,
		"7 constant k variable v : main k v ! a ;":   a,
	} {
		ws := wantMeant(t, ": a nop ; : b nop nop ; "+src)
		got := 0
		for _, w := range ws {
			switch w.At {
			case 128:
				got |= a
			case 134:
				got |= b
			}
		}
		if got != want {
			t.Errorf("P16.7: %s: %d, want %d: %v", src, got, want, ws)
		}
	}
}

func TestLargeSources(t *testing.T) { // P16.7: up to the limits of a source
	var chain sources.Writer
	chain.Word("n0")
	for i := 1; i < 511; i++ {
		chain.Word(fmt.Sprint("n", i), sources.Name(fmt.Sprint("n", i-1)))
	}
	chain.Word("main", sources.Name("n510"), sources.Name("n0"))
	if ws := wantMeant(t, chain.Source()); len(ws) != 512 {
		t.Errorf("%d words, want 512", len(ws))
	}
	long := ": main " + strings.Repeat("nop ", 8126) + ";"
	if ws := wantMeant(t, long); len(ws) != 1 || len(ws[0].Instrs) != 8127 {
		t.Errorf("%d words, %d instructions, want 1, 8127", len(ws), len(ws[0].Instrs))
	}
}
