package infer_test

import (
	"maps"
	"math/rand"
	"reflect"
	"slices"
	"strconv"
	"strings"
	"testing"

	"wisp/api"
	"wisp/carts"
	"wisp/flow"
	"wisp/infer"
	"wisp/sources"
	"wisp/spare"
)

// anyWord is one of the maker's, or one of a source's, with what is known of those that it calls.
func anyWord(t *testing.T, m *maker) (flow.Word, map[uint16]api.Shape) {
	t.Helper()
	if m.Intn(3) > 0 {
		return m.Any()
	}
	c := cartOf(t, sources.NewLively(m).Program(m.Intn(8)))
	known, v := infer.Shapes(c)
	ws, _ := flow.Words(c)
	if v.Err != fine {
		t.Fatalf("the tests' own source: %v", v)
	}
	return ws[m.Intn(len(ws))], known
}

// copied shares nothing with another word.
func copied(w flow.Word) flow.Word {
	w.Instrs, w.Calls = slices.Clone(w.Instrs), slices.Clone(w.Calls)
	return w
}

// moved is a word with all that it leads to, further on by so much.
func moved(w flow.Word, known map[uint16]api.Shape, by uint16) (flow.Word, map[uint16]api.Shape) {
	w = copied(w)
	w.At += by
	for i := range w.Instrs {
		x := &w.Instrs[i]
		x.At += by
		x.Next += by
		switch x.Op {
		case 4, 5, 7:
			x.Operand += by
		case 1, 2:
			x.Word += by
		}
	}
	for i := range w.Calls {
		w.Calls[i] += by
	}
	others := map[uint16]api.Shape{}
	for at, s := range known {
		others[at+by] = s
	}
	return w, others
}

// inOrder tells whether all addresses that a state comes to, moved by so much, are still in the same order.
func inOrder(states map[int]stands, by uint16) bool {
	round := 0
	for at := range states {
		if at+int(by) > 65535 {
			round++
		}
	}
	return round == 0 || round == len(states)
}

func TestMovedWords(t *testing.T) { // 17.4: by an even number
	m := newMaker(rand.New(rand.NewSource(175)))
	shapes, faults, round := 0, 0, 0
	for range 6000 {
		w, known := anyWord(t, m)
		s, v := infer.Shape(w, known)
		model := newModel(w, known)
		model.all()
		for _, by := range []uint16{2, 65534, 16384, 32768, uint16(2 * m.Intn(32768)), uint16(2 * m.Intn(32768)), 65532 - w.At, 65520 - w.At} {
			by -= by % 2
			there, others := moved(w, known, by)
			got, u := infer.Shape(there, others)
			if got != s || (u.Err == fine) != (v.Err == fine) {
				t.Fatalf("17.4: %v: %+v, %v; moved by %d: %+v, %v", w, s, v, by, got, u)
			}
			ordered := inOrder(model.states, by)
			if ordered && v.Err != fine && u != (api.Verdict{Err: v.Err, At: v.At + by}) {
				t.Fatalf("17.4: %v: %v; moved by %d: %v", w, v, by, u)
			}
			switch {
			case v.Err != fine:
				faults++
			case !ordered:
				round++
			default:
				shapes++
			}
		}
	}
	if shapes < 10000 || faults < 5000 || round < 1000 {
		t.Errorf("%d shapes, %d faults, %d shapes of words that go round", shapes, faults, round)
	}
}

func TestMovedSources(t *testing.T) { // 17.4: with more definitions ahead of them
	r := rand.New(rand.NewSource(176))
	for range 300 {
		src := sources.NewLively(r).Program(r.Intn(8))
		want, v := infer.Shapes(cartOf(t, src))
		many := 1 + r.Intn(200)
		var ahead strings.Builder
		for i := range many {
			ahead.WriteString("7 constant ahead" + strconv.Itoa(i) + " ")
		}
		got, u := infer.Shapes(cartOf(t, ahead.String()+src))
		if v.Err != fine || u.Err != fine || len(got) != len(want) {
			t.Fatalf("17.4: %s: %v, %v; %d definitions further on: %v, %v", src, want, v, many, got, u)
		}
		for at, s := range want {
			if got[at+uint16(4*many)] != s {
				t.Fatalf("17.4: %s: %v; %d definitions further on: %v", src, want, many, got)
			}
		}
	}
}

func TestWhatDoesNotMatter(t *testing.T) { // 17.1, 17.4: fields that an instruction does not use, the word's Calls, other shapes
	m := newMaker(rand.New(rand.NewSource(177)))
	for range 6000 {
		w, known := anyWord(t, m)
		s, v := infer.Shape(w, known)
		other, more := copied(w), maps.Clone(known)
		called := map[uint16]bool{}
		for i := range other.Instrs {
			x := &other.Instrs[i]
			any := func() uint16 { return uint16(m.Intn(65536)) }
			if x.Op == 1 {
				called[x.Word] = true
			} else {
				x.Word = any()
			}
			if x.Op != 4 && x.Op != 5 && x.Op != 7 {
				x.Operand = any()
			}
			if x.Op == 4 || x.Op == 8 || x.Op == 11 {
				x.Next = any()
			}
		}
		other.Calls = []uint16{w.At, 7, 7, 2}
		for range 20 {
			if at := uint16(m.Intn(65536)); !called[at] {
				more[at] = api.Shape{In: m.Intn(300), Return: m.Intn(300)}
			}
		}
		if got, u := infer.Shape(other, more); got != s || u != v {
			t.Fatalf("%v: %+v, %v; %v: %+v, %v", w, s, v, other, got, u)
		}
	}
}

func TestNumbersOfShapes(t *testing.T) { // 17.5
	m := newMaker(rand.New(rand.NewSource(178)))
	shapes := 0
	var most api.Shape
	for range 30000 {
		w, known := anyWord(t, m)
		s, v := infer.Shape(w, known)
		if v.Err != fine {
			if s != (api.Shape{}) {
				t.Fatalf("%v: %+v beside %v", w, s, v)
			}
			continue
		}
		shapes++
		least, great := min(s.In, s.Out, s.Data, s.Return), max(s.In, s.Out, s.Data)
		if least < 0 || great > 256 || s.Return > 128 || v != (api.Verdict{}) || s.Never && s.Out != 0 {
			t.Fatalf("17.5: %v: %+v, %v", w, s, v)
		}
		most = api.Shape{In: max(most.In, s.In), Out: max(most.Out, s.Out), Data: max(most.Data, s.Data), Return: max(most.Return, s.Return)}
	}
	if want := (api.Shape{In: 256, Out: 256, Data: 256, Return: 127}); shapes < 10000 || most.In < want.In || most.Out < want.Out || most.Data < want.Data || most.Return < want.Return {
		t.Errorf("%d shapes, the greatest numbers are %+v", shapes, most)
	}
}

func TestWordsThatOnlyTake(t *testing.T) { // 17.5: Data 0
	r := rand.New(rand.NewSource(179))
	list := strings.Fields(sources.Effects)
	taking := map[string]api.Shape{"w": {In: 3}, "v": {In: 2, Out: 1}, "u": {In: 1, Out: 1, Return: 3}}
	for range 3000 {
		text, never := "", r.Intn(2) == 0
		for i := range r.Intn(60) {
			switch k := 3 * r.Intn(len(list)/3); {
			case r.Intn(8) == 0:
				text += []string{"w ", "v ", "u "}[r.Intn(3)]
			case r.Intn(8) == 0:
				text += strings.ReplaceAll("zbranch,x x: ", "x", "x"+strconv.Itoa(i))
			case r.Intn(8) == 0 && never:
				text += []string{">r ", "do "}[r.Intn(2)]
			case list[k+1] >= list[k+2]:
				text += list[k] + " "
			}
		}
		w := written(t, 128, taking, text+map[bool]string{true: "halt", false: "exit"}[never])
		if s, v := infer.Shape(w.Word, w.known); v.Err != fine || s.Data != 0 || s.Out > s.In {
			t.Fatalf("17.5: %s: %+v, %v", text, s, v)
		}
	}
}

func TestInstructionsThatNoStateComesTo(t *testing.T) { // 17.6: more of them, and fewer
	m := newMaker(rand.New(rand.NewSource(180)))
	fewer := 0
	for range 6000 {
		w, known := anyWord(t, m)
		s, v := infer.Shape(w, known)
		model := newModel(w, known)
		model.all()
		comes := func(x flow.Instr) bool {
			_, is := model.states[int(x.At)]
			return is
		}
		more := copied(w)
		for range m.Intn(30) {
			x := flow.Instr{At: uint16(m.Intn(65536)), Op: m.Intn(70) - 2, Operand: uint16(m.Intn(65536)), Word: uint16(m.Intn(65536)), Next: uint16(m.Intn(65536))}
			if m.Intn(2) == 0 {
				x.At = w.At + uint16(m.Intn(40))
			}
			if !comes(x) {
				more.Instrs = slices.Insert(more.Instrs, m.Intn(len(more.Instrs)+1), x)
			} else if slices.ContainsFunc(w.Instrs, func(y flow.Instr) bool { return y.At == x.At }) {
				// No state comes to it: the first one at its address counts.
				more.Instrs = append(more.Instrs, x)
			}
		}
		less := copied(w)
		less.Instrs = slices.DeleteFunc(less.Instrs, func(x flow.Instr) bool { return !comes(x) })
		if len(less.Instrs) < len(w.Instrs) {
			fewer++
		}
		for _, other := range []flow.Word{more, less} {
			if got, u := infer.Shape(other, known); got != s || u != v {
				t.Fatalf("17.6: %v: %+v, %v; %v: %+v, %v", w, s, v, other, got, u)
			}
		}
	}
	if fewer < 1000 {
		t.Errorf("only %d have instructions that no state comes to", fewer)
	}
}

func TestLongWords(t *testing.T) { // R1: every call ends, in a time that the words' length bears
	every := func(next func(at int) int, op int) flow.Word {
		w := flow.Word{At: 65534}
		for at := range 65536 {
			w.Instrs = append(w.Instrs, flow.Instr{At: uint16(at), Op: op, Next: uint16(next(at))})
		}
		return w
	}
	round := api.Shape{Never: true}
	for what, x := range map[string]struct {
		w    flow.Word
		want api.Shape
		v    api.Verdict
	}{
		"every address, rising":     {every(func(at int) int { return at + 1 }, 9), round, api.Verdict{}},
		"every address, falling":    {every(func(at int) int { return at - 1 }, 9), round, api.Verdict{}},
		"every address, to and fro": {every(func(at int) int { return at + 40503 }, 9), round, api.Verdict{}},
		"numbers":                   {every(func(at int) int { return at + 1 }, 3), api.Shape{}, api.Verdict{Err: badDepth, At: 256}},
	} {
		if s, v := infer.Shape(x.w, nil); s != x.want || v != x.v {
			t.Errorf("%s: %+v, %v, want %+v, %v", what, s, v, x.want, x.v)
		}
	}
	// Far more instructions than addresses.
	long := flow.Word{At: 8, Instrs: []flow.Instr{{At: 10, Op: 8}}}
	for i := range 1000000 {
		long.Instrs = append(long.Instrs, flow.Instr{At: uint16(i), Op: 99})
	}
	if s, v := infer.Shape(long, nil); s != (api.Shape{}) || v != (api.Verdict{}) {
		t.Errorf("a million instructions: %v, %v", s, v)
	}
}

func TestLongCode(t *testing.T) { // R1: as much code, and as many words, as there may be
	full := append(carts.Threads(), 1)
	for len(full) < 8191 {
		full = append(full, 24, 26)
	}
	full = append(full[:8191], 16)
	wantShapes(t, "one long word", api.Cart{Code: carts.Code(full...), Entry: 128}, map[uint16]api.Shape{128: {In: 1, Out: 1, Data: 1}})
	const many = 2700
	cells, want := []uint16{1}, map[uint16]api.Shape{128: {Return: 1}}
	for i := range many {
		at := uint16(128 + 2*(many+2) + 4*i)
		cells = append(cells, at)
		want[at] = api.Shape{}
	}
	cells = append(cells, 16)
	for range many {
		cells = append(cells, 1, 16)
	}
	wantShapes(t, "many words", carts.Of(128, cells...), want)
}

func TestTheWordStays(t *testing.T) { // R3, R5: its lists, spare room too, and the map; what lies in the room does not matter
	m := newMaker(rand.New(rand.NewSource(181)))
	for range 5000 {
		plain, known := anyWord(t, m)
		want, v := infer.Shape(plain, known)
		w := plain
		w.Instrs = spare.Given(plain.Instrs, flow.Instr{At: plain.At + 2, Op: 77})
		w.Calls = spare.Given(plain.Calls, 77)
		instrs, calls, before := slices.Clone(w.Instrs[:cap(w.Instrs)]), slices.Clone(w.Calls[:cap(w.Calls)]), maps.Clone(known)
		s, u := infer.Shape(w, known)
		if s != want || u != v {
			t.Fatalf("%v: %+v, %v; with room behind the lists: %+v, %v", plain, want, v, s, u)
		}
		if !slices.Equal(w.Instrs[:cap(w.Instrs)], instrs) || !slices.Equal(w.Calls[:cap(w.Calls)], calls) || !maps.Equal(known, before) {
			t.Fatalf("%v, %v: what was handed in has changed", plain, before)
		}
		// What was handed in is not kept: another call does not see it.
		spare.Over(w.Instrs, flow.Instr{Op: 99})
		clear(known)
		if s, u := infer.Shape(plain, before); s != want || u != v {
			t.Fatalf("%v: %+v, %v, want %+v, %v", plain, s, u, want, v)
		}
	}
}

func TestTheCartridgeStays(t *testing.T) { // R3, R5: spare room too; what is handed out is apart from it, and from what another call hands out
	r := rand.New(rand.NewSource(182))
	for i := range 2000 {
		plain := anyCart(t, r)
		if i%20 == 0 {
			plain.Banks = []api.Bank{{Num: 2, Data: []byte{1}}, {Num: 2}}
		}
		c := spare.Cart(plain)
		before := spare.WholeCart(c)
		one, v := infer.Shapes(c)
		two, _ := infer.Shapes(c)
		if !reflect.DeepEqual(spare.WholeCart(c), before) {
			t.Fatalf("%v: the cartridge has changed", plain)
		}
		want, u := infer.Shapes(plain)
		if u != v || !maps.Equal(one, want) {
			t.Fatalf("%v: %v, %v; with room behind the lists: %v, %v", plain, want, u, one, v)
		}
		if v.Err == fine {
			for at := range one {
				one[at] = api.Shape{In: 99}
			}
			one[7] = api.Shape{Never: true}
		}
		spare.Over(c.Code, 99)
		if three, _ := infer.Shapes(plain); !maps.Equal(two, want) || !maps.Equal(three, want) {
			t.Fatalf("%v: with one answer and the cartridge written over: %v, %v, want %v", plain, two, three, want)
		}
	}
}
