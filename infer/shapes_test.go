package infer_test

import (
	"fmt"
	"maps"
	"math/rand"
	"slices"
	"strings"
	"testing"

	"wisp/api"
	"wisp/carts"
	"wisp/effect"
	"wisp/emit"
	"wisp/flow"
	"wisp/infer"
	"wisp/layout"
	"wisp/sources"
	"wisp/tree"
	"wisp/vm"
)

// wantVerdict asks for a verdict, and for no shapes beside it.
func wantVerdict(t *testing.T, what string, c api.Cart, e api.Errno, at uint16) {
	t.Helper()
	if l, v := infer.Shapes(c); v != (api.Verdict{Err: e, At: at}) || len(l) != 0 {
		t.Errorf("%s: Shapes = %v, %v, want the verdict {%d %d}", what, l, v, e, at)
	}
}

// wantShapes asks that these are all shapes.
func wantShapes(t *testing.T, what string, c api.Cart, want map[uint16]api.Shape) {
	t.Helper()
	if l, v := infer.Shapes(c); v != (api.Verdict{}) || !maps.Equal(l, want) {
		t.Errorf("%s: Shapes = %v, %v, want %v", what, l, v, want)
	}
}

// program is that of a text, with its cartridge.
func program(t *testing.T, src string) (api.Program, api.Cart) {
	t.Helper()
	p, at, e := tree.Parse(src)
	c, f := emit.Cart(p)
	if e != fine || f != fine {
		t.Fatalf("the tests' own %s: %d at %v, %d", brief(src), e, at, f)
	}
	return p, c
}

func cartOf(t *testing.T, src string) api.Cart {
	t.Helper()
	_, c := program(t, src)
	return c
}

func TestShapesWithTheVerdictOfWords(t *testing.T) { // 17.2
	for what, c := range carts.Refused() {
		wantVerdict(t, what, c, badCart, 0)
		if len(c.Code) == 0 {
			c.Code, c.Entry = carts.Of(128, 1, 16).Code, 128
			wantVerdict(t, what+" beside a word", c, badCart, 0)
		}
	}
	for what, c := range carts.JustTaken() {
		wantVerdict(t, what, c, badCall, c.Entry)
	}
	wantVerdict(t, "a constant", carts.Of(128, 2, 9), badCall, 128)
	wantVerdict(t, "a target that is odd", carts.Of(128, 1, 8, 131), badTarget, 130)
	wantVerdict(t, "no primitive", carts.Of(128, 1, 8, 132), badOpcode, 132)
	wantVerdict(t, "the code ends", carts.Of(128, 1, 42), badFall, 132)
	// 128: a word with r> alone, whose fault would be found first; main at 134.
	wantVerdict(t, "ahead of a word's fault", carts.Of(134, 1, 112, 16, 1, 128, 0), badOpcode, 138)
	wantVerdict(t, "behind what never returns", carts.Of(132, 1, 22, 1, 128, 0), badOpcode, 136)
}

func TestShapesWithTheVerdictOfOrder(t *testing.T) { // 17.2
	wantVerdict(t, "a word that calls itself", carts.Of(128, 1, 6, 7, 128, 16), badCall, 128)
	wantVerdict(t, "two that call one another", carts.Of(134, 1, 134, 16, 1, 128, 16), badCall, 128)
	wantVerdict(t, "ahead of a word's fault", carts.Of(134, 1, 112, 16, 1, 128, 134, 16), badCall, 134)
	wantVerdict(t, "a call of itself that is not come to", carts.Of(132, 1, 22, 1, 128, 132), badFall, 138)
	wantVerdict(t, "the same, and an end", carts.Of(132, 1, 22, 1, 128, 132, 16), badCall, 132)
}

func TestShapesWithAFault(t *testing.T) { // 17.2: the first, in flow.Order's order
	wantVerdict(t, "in main", carts.Of(128, 1, 112, 16), badReturn, 130)
	wantVerdict(t, "in a word", carts.Of(134, 1, 112, 16, 1, 128, 16), badReturn, 130)
	wantVerdict(t, "in a word that a word calls", carts.Of(140, 1, 112, 16, 1, 128, 16, 1, 134, 16), badReturn, 130)
	// Both have one: the word that is called is told first, wherever it lies.
	wantVerdict(t, "in main and in a word behind it", carts.Of(128, 1, 136, 112, 16, 1, 116, 16), badReturn, 138)
	wantVerdict(t, "in main and in a word ahead of it", carts.Of(134, 1, 112, 16, 1, 128, 112, 16), badReturn, 130)
	// a at 128 calls c at 150; b at 136; main at 142 calls a and b. The order is b, c, a, main.
	const nop, bad = 18, 112
	words := func(a, b, c uint16) api.Cart {
		return carts.Of(142, 1, 150, a, 16, 1, b, 16, 1, 128, 136, 16, 1, c, 16)
	}
	wantVerdict(t, "in all three", words(bad, bad, bad), badReturn, 138)
	wantVerdict(t, "in a and c", words(bad, nop, bad), badReturn, 152)
	wantVerdict(t, "in a", words(bad, nop, nop), badReturn, 132)
	wantShapes(t, "in none", words(nop, nop, nop), map[uint16]api.Shape{128: {Return: 1}, 136: {}, 142: {Return: 2}, 150: {}})
	for src, want := range map[string]api.Verdict{
		": main r> ;":                                                      {Err: badReturn, At: 130},
		": bad if 1 then ; : main 1 bad ;":                                 {Err: badJoin, At: 134},
		": bad begin 1 again ; : main bad ;":                               {Err: badLoop, At: 134},
		": bad " + times(257, "1") + "; : main bad ;":                      {Err: badDepth, At: 130 + 4*256},
		": bad drop " + times(257, "1") + "; : main 1 bad ;":               {Err: badDepth, At: 128},
		": ok nop ; : bad drop " + times(257, "1") + "; : main 1 ok bad ;": {Err: badDepth, At: 134},
	} {
		wantVerdict(t, brief(src), cartOf(t, src), want.Err, want.At)
	}
}

func TestShapesWithoutAFault(t *testing.T) { // 17.2: all words that can be reached, and no others
	for src, want := range map[string]map[uint16]api.Shape{
		": main ;":                                    {128: {}},
		": sq dup * ; : main 3 sq drop ;":             {128: {In: 1, Out: 1, Data: 1}, 136: {Data: 2, Return: 1}},
		": a nop ; : bad r> ; : main a ; : worse i ;": {128: {}, 140: {Return: 1}},
		": bad r> ; : main halt bad ;":                {134: {Never: true}},
		// What a call of what never returns leads to is reached by flow.
		": never halt ; : a 1 ; : main never a ;":                  {128: {Never: true}, 134: {Out: 1, Data: 1}, 142: {Return: 1, Never: true}},
		"7 constant k variable v : main k v ! ;":                   {136: {Data: 2}},
		": a 1 >r r> drop ; : b a a ; : c b a 1 ; : main c drop ;": {128: {Data: 1, Return: 1}, 142: {Data: 1, Return: 2}, 150: {Out: 1, Data: 1, Return: 3}, 162: {Data: 1, Return: 4}},
		// Neither what main takes nor what it leaves is asked here.
		": main 2dup 2drop 1 ;": {128: {In: 2, Out: 3, Data: 2}},
	} {
		wantShapes(t, src, cartOf(t, src), want)
	}
	// Effects and banks do not matter.
	c := cartOf(t, ": sq dup * ; : main 3 sq drop ; 3 bank { 1 }")
	c.Effects = []api.Effect{{At: 128, In: 5, Out: 7}}
	wantShapes(t, "other effects", c, map[uint16]api.Shape{128: {In: 1, Out: 1, Data: 1}, 136: {Data: 2, Return: 1}})
	// Code that no source makes: a word that lies behind main, and ways that cross.
	wantShapes(t, "any code", carts.Of(128, 1, 136, 26, 16, 1, 8, 150, 18, 6, 7, 16, 8, 144, 16), map[uint16]api.Shape{128: {Data: 1, Return: 1}, 136: {Out: 1, Data: 1}})
}

// anyCart is of all sorts, a source's among them, now and then with some cells changed.
func anyCart(t *testing.T, r *rand.Rand) api.Cart {
	t.Helper()
	if r.Intn(4) == 0 {
		return carts.Any(r)
	}
	src := sources.NewLively(r).Program(r.Intn(8))
	if r.Intn(4) == 0 {
		src = sources.New(r).Some()
	}
	return carts.Changed(r, cartOf(t, src), r.Intn(3))
}

// modelledShapes says 17.2 once more, by the model of 17.1.
func modelledShapes(c api.Cart) (map[uint16]api.Shape, api.Verdict) {
	ws, v := flow.Words(c)
	if v.Err != fine {
		return nil, v
	}
	order, v := flow.Order(ws)
	if v.Err != fine {
		return nil, v
	}
	known := map[uint16]api.Shape{}
	for _, at := range order {
		i := slices.IndexFunc(ws, func(w flow.Word) bool { return w.At == at })
		s, v := modelled(ws[i], known)
		if v.Err != fine {
			return nil, v
		}
		known[at] = s
	}
	return known, api.Verdict{}
}

func TestShapesAgainstTheModel(t *testing.T) { // 17.1, 17.2: any cartridges
	r := rand.New(rand.NewSource(172))
	met := map[api.Errno]int{}
	several := 0
	for range 8000 {
		c := anyCart(t, r)
		want, v := modelledShapes(c)
		l, u := infer.Shapes(c)
		if u != v || !maps.Equal(l, want) {
			t.Fatalf("%v: Shapes = %v, %v, want %v, %v", c, l, u, want, v)
		}
		met[v.Err]++
		if len(l) > 1 {
			several++
		}
	}
	for _, e := range []api.Errno{fine, badJoin, badLoop, badReturn, badOpcode, badFall, badCall, badTarget} {
		if met[e] < 40 {
			t.Errorf("the error %d was met %d times: %v", e, met[e], met)
		}
	}
	if several < 500 {
		t.Errorf("%d have several shapes; all: %v", several, met)
	}
}

// wantTyped asks of a program that is typable that each word that Shapes tells has the shape that effect says; it tells how many there are.
func wantTyped(t *testing.T, src string) int {
	t.Helper()
	p, c := program(t, src)
	if e, at := effect.Typable(p); e != fine {
		t.Fatalf("the tests' own %s is not typable: %d at %v", brief(src), e, at)
	}
	typed, _ := effect.Shapes(p)
	places, _, _, _, _ := layout.Of(p)
	said := map[uint16]effect.Typed{}
	for i, d := range p.Defs {
		if d.Kind == 1 {
			said[places[i].At] = typed[0]
			typed = typed[1:]
		}
	}
	l, v := infer.Shapes(c)
	if v != (api.Verdict{}) {
		t.Fatalf("17.3: %s: %v", brief(src), v)
	}
	words, _ := flow.Words(c)
	for _, w := range words {
		s, is := l[w.At]
		if x := said[w.At]; !is || x.Err != fine || s != x.Shape {
			t.Fatalf("17.3: %s: at %d %+v, want %+v", brief(src), w.At, s, x)
		}
	}
	if len(l) != len(words) {
		t.Fatalf("17.2: %s: %d shapes of %d words", brief(src), len(l), len(words))
	}
	return len(l)
}

func TestTypableSources(t *testing.T) { // 17.3, W5: any
	r := rand.New(rand.NewSource(173))
	words := 0
	for range 2500 {
		words += wantTyped(t, sources.NewLively(r).Program(r.Intn(12)))
	}
	others := 0
	for range 6000 {
		src := sources.New(r).Some()
		p, _, _ := tree.Parse(src)
		if e, _ := effect.Typable(p); e == fine {
			wantTyped(t, src)
			others++
		}
	}
	if words < 4000 || others < 1000 {
		t.Errorf("%d words, %d other programs", words, others)
	}
}

func TestShortBodies(t *testing.T) { // 17.3, W5: each that has a shape, called with what it takes
	const first = ": w drop 1 >r r> ; : never begin again ; 7 constant k\n"
	words := 0
	for many, leaves := range map[int]string{3: "1 drop dup >r r> r@ i j exit halt w never k", 4: "1 drop >r r> halt"} {
		for list := range slices.Chunk(sources.Bodies(strings.Fields(leaves), many, false), 300) {
			var src strings.Builder
			src.WriteString(first)
			for i, body := range list {
				fmt.Fprintf(&src, ": x%d %s ;\n", i, body)
			}
			p, _ := program(t, src.String()+": main ;")
			typed, _ := effect.Shapes(p)
			words += wantTyped(t, first+calling(list, typed[2:]))
		}
	}
	if words < 8000 {
		t.Errorf("%d words", words)
	}
}

// calling is a text of those bodies that have a shape, and of a main that calls them.
func calling(bodies []string, typed []effect.Typed) string {
	var src, main strings.Builder
	for i, body := range bodies {
		s := typed[i].Shape
		if typed[i].Err != fine {
			continue
		}
		fmt.Fprintf(&src, ": x%d %s ;\n", i, body)
		fmt.Fprintf(&main, "1 if %sx%d %sthen ", times(s.In, "1"), i, times(s.Out, "drop"))
	}
	return src.String() + ": main " + main.String() + ";"
}

func TestTypableExamples(t *testing.T) { // 17.3, W5: those of chapter 11, and shapes with each number as great as may be
	for _, src := range sources.Typable() {
		wantTyped(t, src)
	}
	l, v := infer.Shapes(cartOf(t, sources.Chain(129)+": main n128 ;"))
	if v.Err != badDepth || len(l) != 0 {
		t.Errorf("a return stack of 129: %v", v)
	}
}

func TestWhatShapesSayIsSo(t *testing.T) { // what chapter 18 rests on: neither stack is higher than main's shape says, and nothing faults
	r := rand.New(rand.NewSource(174))
	lives, low := 0, 0
	for range 3000 {
		c := anyCart(t, r)
		l, v := infer.Shapes(c)
		main := l[c.Entry]
		if v.Err != fine || main.In > 0 || main.Out > 0 {
			continue
		}
		lives++
		m, _ := vm.New(c)
		data, ret := 0, 0
		for range 300 {
			m.Step()
			s := m.State()
			data, ret = max(data, len(s.Data)), max(ret, len(s.Return))
			if s.Status == 3 || data > main.Data || ret > main.Return {
				t.Fatalf("%v: %+v, fault %d, heights %d and %d", c, main, s.Fault, data, ret)
			}
		}
		if main.Data > 0 && data == main.Data && ret == main.Return {
			low++
		}
	}
	if lives < 500 || low < 100 {
		t.Errorf("%d lives, of which %d come as high as their shape says", lives, low)
	}
}
