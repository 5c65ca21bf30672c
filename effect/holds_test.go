package effect_test

import (
	"math/rand"
	"reflect"
	"slices"
	"strconv"
	"strings"
	"testing"

	"wisp/api"
	"wisp/effect"
	"wisp/spare"
	"wisp/trees"
	"wisp/vm"
)

// compiled is a program's cartridge, by DOC.md's table of what nodes come to: first a code field for each primitive, then the definitions.
type compiled struct {
	cells []uint16
	at    map[string]uint16
}

func compiledOf(p api.Program) api.Cart {
	c := &compiled{at: map[string]uint16{}}
	for op := 1; op < 64; op++ {
		c.cells = append(c.cells, uint16(op))
	}
	ram := uint16(0x8000)
	for _, d := range p.Defs {
		c.at[d.Name] = c.here()
		switch d.Kind {
		case 1:
			c.put(1)
			c.body(d.Body)
			c.put(primAt(8))
		case 2:
			c.put(2, d.Value)
		case 3:
			c.put(2, ram)
			ram += d.Value
		}
	}
	var code []byte
	for _, x := range c.cells {
		code = append(code, byte(x), byte(x>>8))
	}
	return api.Cart{Code: code, Entry: c.at["main"], Banks: p.Banks}
}

func primAt(op int) uint16 { return uint16(2 * (op - 1)) }

func (c *compiled) here() uint16 { return uint16(2 * len(c.cells)) }

func (c *compiled) put(x ...uint16) { c.cells = append(c.cells, x...) }

// leap puts a branch of some kind there, and tells which cell its target is.
func (c *compiled) leap(op int) int {
	c.put(primAt(op), 0)
	return len(c.cells) - 1
}

func (c *compiled) body(list []api.Node) {
	const branch, zbranch, do, loop = 4, 5, 6, 7
	for _, n := range list {
		begin := c.here()
		switch n.Kind {
		case 1:
			c.put(primAt(n.Op))
		case 2:
			c.put(primAt(3), n.Value)
		case 3:
			c.put(c.at[n.Name])
		case 4:
			over := c.leap(zbranch)
			c.body(n.Then)
			if n.Has {
				end := c.leap(branch)
				c.cells[over] = c.here()
				c.body(n.Else)
				over = end
			}
			c.cells[over] = c.here()
		case 5:
			c.body(n.Then)
			c.put(primAt(zbranch), begin)
		case 6:
			c.body(n.Then)
			out := c.leap(zbranch)
			c.body(n.Else)
			c.put(primAt(branch), begin)
			c.cells[out] = c.here()
		case 7:
			c.body(n.Then)
			c.put(primAt(branch), begin)
		case 8:
			c.put(primAt(do))
			begin = c.here()
			c.body(n.Then)
			c.put(primAt(loop), begin)
		case 9:
			c.put(primAt(8))
		}
	}
}

// heights lets a program run for so many instructions, with any gamepads, and tells how high its stacks have been and how it stands.
func heights(t *testing.T, r *rand.Rand, p api.Program, many int) (data, ret int, end vm.State) {
	t.Helper()
	m, e := vm.New(compiledOf(p))
	if e != fine {
		t.Fatalf("vm.New: %d", e)
	}
	for range many {
		if m.Step() {
			m.Memory().Begin(uint8(r.Intn(256)))
		}
		end = m.State()
		data, ret = max(data, len(end.Data)), max(ret, len(end.Return))
		if end.Status != 1 {
			break
		}
	}
	return data, ret, end
}

const halted, faulted = api.Status(2), api.Status(3)

func TestProgress(t *testing.T) { // 11.6: no fault, and no stack above what main's shape says
	m := &maker{Rand: rand.New(rand.NewSource(1116))}
	ended, typable := 0, 0
	for range 700 {
		src := m.source(1 + m.Intn(8))
		p := taken(t, src)
		if e, _ := effect.Typable(p); e != fine {
			continue
		}
		typable++
		shape := shapeOf(t, p, "main")
		data, ret, end := heights(t, m.Rand, p, 1500)
		if end.Status == faulted || data > shape.Data || ret > shape.Return {
			t.Fatalf("%s: %+v, stacks of %d and %d; the shape is %+v", src, end, data, ret, shape)
		}
		if end.Status == halted && !shape.Never {
			ended++
		}
	}
	if typable < 400 || ended < 100 {
		t.Errorf("%d were typable, %d have ended", typable, ended)
	}
}

func TestEffectsThatAreMet(t *testing.T) { // 11.3, 11.6: a word that has returned has taken In and left Out, whatever lies below
	m := &maker{Rand: rand.New(rand.NewSource(1117))}
	met := 0
	for range 700 {
		src := m.source(1 + m.Intn(6))
		p := taken(t, src)
		for _, x := range shapesOf(t, src) {
			if x.Err != fine || x.Shape.Never || x.Shape.In > 250 || x.Name == "main" {
				continue
			}
			// main: some cells that stay, those that are taken, the word, halt.
			main := slices.IndexFunc(p.Defs, func(d api.Def) bool { return d.Name == "main" })
			var body []api.Node
			for i := range 3 + x.Shape.In {
				body = append(body, api.Node{Kind: 2, Value: uint16(i)})
			}
			p.Defs[main].Body = append(body, api.Node{Kind: 3, Name: x.Name}, api.Node{Kind: 1, Op: 11})
			data, ret, end := heights(t, m.Rand, p, 1500)
			if end.Status == faulted {
				t.Fatalf("%s: %s of %s faults: %+v", x.Name, src, x.Name, end)
			}
			if data > 3+x.Shape.In+x.Shape.Data || ret > 1+x.Shape.Return {
				t.Fatalf("%s: %s lifts the stacks to %d and %d: %+v", src, x.Name, data, ret, x)
			}
			// It has come back, if it has not halted inside: then no cell of its call is left.
			if end.Status == halted && len(end.Return) == 0 {
				met++
				if len(end.Data) != 3+x.Shape.Out || !reflect.DeepEqual(end.Data[:3], []uint16{0, 1, 2}) {
					t.Fatalf("%s: %s leaves %v: %+v", src, x.Name, end.Data, x)
				}
			}
		}
	}
	if met < 300 {
		t.Errorf("%d words have returned", met)
	}
}

func TestHeightsThatAreMet(t *testing.T) { // 11.1, 11.2: of code without branches the numbers are just those that are met
	m := &maker{Rand: rand.New(rand.NewSource(1118))}
	for range 300 {
		m.words, m.shapes, m.values = nil, nil, nil
		for i := range 1 + m.Intn(5) {
			name := "w" + strconv.Itoa(i)
			m.put(":", name)
			m.height, m.own, m.exits, m.exact = 0, nil, false, false
			m.body(12, 0, true)
			m.put(";")
			m.shapes = modelled(strings.Join(m.words, " "))
		}
		m.put(":", "main")
		m.mainBody()
		m.put(";")
		src := m.text(m.words)
		p := taken(t, src)
		shape := shapeOf(t, p, "main")
		data, ret, end := heights(t, m.Rand, p, 100000)
		if end.Status != halted || len(end.Data) != 0 || data != shape.Data || ret != shape.Return {
			t.Fatalf("%s: %+v, stacks of %d and %d; the shape is %+v", src, end, data, ret, shape)
		}
	}
}

func shapeOf(t *testing.T, p api.Program, name string) api.Shape {
	t.Helper()
	l, e := effect.Shapes(p)
	i := slices.IndexFunc(l, func(x effect.Typed) bool { return x.Name == name })
	if e != fine || i < 0 || l[i].Err != fine {
		t.Fatalf("%s of %+v: %v, %d", name, p, l, e)
	}
	return l[i].Shape
}

// placeless is a list of shapes by name, without places.
func placeless(l []effect.Typed) map[string]effect.Typed {
	by := map[string]effect.Typed{}
	for _, x := range l {
		x.Pos = api.Pos{}
		by[x.Name] = x
	}
	return by
}

// anySource is a text of a maker, now and then with a slip in it.
func anySource(m *maker) string {
	src := m.source(1 + m.Intn(8))
	if m.Intn(2) == 0 {
		words := slices.Clone(m.words)
		i := slices.Index(words, ":") + 2 + m.Intn(3)
		words = slices.Insert(words, min(i, slices.Index(words, ";")), m.one("r>", "1 >r", "if 1 then", "begin drop again", "1"))
		src = m.text(words)
	}
	return src
}

func TestNamesAndNumbersDoNotMatter(t *testing.T) { // 11.7: nor places, nor what stands behind a name that is no word's
	m := &maker{Rand: rand.New(rand.NewSource(1171))}
	bad := 0
	for range 500 {
		src := anySource(m)
		p, q := taken(t, src), taken(t, src)
		fresh := map[string]string{"main": "main"}
		for i := range q.Defs {
			d := &q.Defs[i]
			if d.Name != "main" {
				fresh[d.Name] = "fresh" + strconv.Itoa(m.Intn(1000)) + "." + strconv.Itoa(i)
			}
			d.Name, d.Pos = fresh[d.Name], pos(m.Intn(9), m.Intn(9))
			if d.Kind != 1 {
				d.Kind, d.Value = 2+m.Intn(2), uint16(m.Intn(16385))
			}
			trees.Each(d.Body, func(n *api.Node) {
				n.Pos = pos(m.Intn(9), m.Intn(9))
				n.Name = fresh[n.Name]
				if n.Kind == 2 {
					n.Value = uint16(m.Intn(65536))
				}
			})
		}
		q.Banks = []api.Bank{{Num: m.Intn(16), Data: []byte{1, 2}}}
		one, e := effect.Shapes(p)
		two, f := effect.Shapes(q)
		if e != fine || f != fine || len(one) != len(two) {
			t.Fatalf("%s: %d shapes, %d; %d shapes, %d", src, len(one), e, len(two), f)
		}
		for i := range one {
			if two[i].Name != fresh[one[i].Name] || one[i].Err != two[i].Err || one[i].Shape != two[i].Shape {
				t.Fatalf("%s: %+v, %+v", src, one[i], two[i])
			}
			if one[i].Err != fine {
				bad++
			}
		}
		e, _ = effect.Typable(p)
		if f, _ = effect.Typable(q); e != f {
			t.Fatalf("%s: Typable: %d, %d", src, e, f)
		}
	}
	if bad < 50 {
		t.Errorf("%d words without a shape", bad)
	}
}

// namedIn tells whether a body has a name in it.
func namedIn(body []api.Node, name string) bool {
	is := false
	trees.Each(body, func(n *api.Node) { is = is || n.Name == name })
	return is
}

func TestOrderDoesNotMatter(t *testing.T) { // 11.7: of definitions, as long as each stands behind what it calls; nor others between
	m := &maker{Rand: rand.New(rand.NewSource(1172))}
	moved := 0
	for range 500 {
		src := anySource(m)
		p, q := taken(t, src), taken(t, src)
		for range 30 {
			i := m.Intn(len(q.Defs))
			if j := i + 1; j < len(q.Defs) && !namedIn(q.Defs[j].Body, q.Defs[i].Name) {
				q.Defs[i], q.Defs[j] = q.Defs[j], q.Defs[i]
				moved++
			}
		}
		between := taken(t, ": other if 1 then ; : main ;").Defs[0]
		q.Defs = slices.Insert(q.Defs, m.Intn(len(q.Defs)+1), between)
		one, e := effect.Shapes(p)
		two, f := effect.Shapes(q)
		x, y := placeless(one), placeless(two)
		delete(y, "other")
		if e != fine || f != fine || len(two) != len(one)+1 || !reflect.DeepEqual(x, y) {
			t.Fatalf("%s: %v, %d, %v, %d", src, x, e, y, f)
		}
		for i, d := range slices.DeleteFunc(slices.Clone(q.Defs), func(d api.Def) bool { return d.Kind != 1 }) {
			if two[i].Name != d.Name {
				t.Fatalf("%s: %s stands as %d of %v", src, d.Name, i, two)
			}
		}
	}
	if moved < 1000 {
		t.Errorf("%d were moved", moved)
	}
}

// inAnotherWay is a body of a shape: chain1 has a Return of 1, chain2 of 2, and so on.
func inAnotherWay(x effect.Typed) string {
	switch x.Err {
	case badJoin:
		return "if drop then"
	case badLoop:
		return "begin drop again"
	case badReturn:
		return "1 i"
	case badDepth:
		return times(257, "drop")
	}
	s := x.Shape
	body := times(s.In, "drop")
	if s.Return > 0 {
		body += "chain" + strconv.Itoa(s.Return-1) + " "
	}
	body += times(s.In+s.Data, "1")
	if s.Never {
		return body + "halt"
	}
	return body + times(s.In+s.Data-s.Out, "drop")
}

func TestOnlyShapesMatter(t *testing.T) { // 11.7: a word that is called may be any other of its shape
	m := &maker{Rand: rand.New(rand.NewSource(1173))}
	first := ": chain0 ; "
	for i := 1; i < 128; i++ {
		first += ": chain" + strconv.Itoa(i) + " chain" + strconv.Itoa(i-1) + " ; "
	}
	for range 200 {
		src := first + anySource(m)
		p := taken(t, src)
		want, e := effect.Shapes(p)
		if e != fine {
			t.Fatalf("%s: %d", src, e)
		}
		i := 128 + m.Intn(len(want)-128)
		d := slices.IndexFunc(p.Defs, func(d api.Def) bool { return d.Name == want[i].Name })
		other := taken(t, first+": x "+inAnotherWay(want[i])+" ; : main ;")
		p.Defs[d].Body = other.Defs[128].Body
		got, e := effect.Shapes(p)
		if e != fine || got[i].Err != want[i].Err || got[i].Shape != want[i].Shape {
			t.Fatalf("the tests' own %s for %+v: %+v, %d", inAnotherWay(want[i]), want[i], got[i], e)
		}
		got[i].Pos = want[i].Pos
		if !slices.Equal(got, want) {
			t.Fatalf("%s with another %s: %v, want %v", src, want[i].Name, got, want)
		}
	}
}

func TestThreeBodies(t *testing.T) { // 11.8
	m := &maker{Rand: rand.New(rand.NewSource(1181))}
	tried, deeper := 0, 0
	for range 3000 {
		m.words, m.shapes, m.values, m.exact = nil, nil, nil, false
		part := func() string {
			m.words, m.height, m.own = nil, 0, nil
			m.body(6, 2, true) // as if inside a do: without an exit
			return strings.Join(m.words, " ")
		}
		one, two := part(), part()
		l := shapesOf(t, ": a "+one+" ; : b "+two+" ; : c "+one+" "+two+" ; : main ;")
		a, b, c := l[0].Shape, l[1].Shape, l[2].Shape
		if a.Never || b.Never || l[0].Err != fine || l[1].Err != fine || l[2].Err != fine {
			continue
		}
		tried++
		if b.In-(a.Out-a.In) > a.In {
			deeper++
		}
		if c.Never || c.In != max(a.In, b.In-(a.Out-a.In)) || c.Out-c.In != a.Out-a.In+b.Out-b.In {
			t.Fatalf("%s: %+v; %s: %+v; both: %+v", one, a, two, b, c)
		}
		if c.Data != max(a.Data, a.Out-a.In+b.Data) || c.Return != max(a.Return, b.Return) {
			t.Fatalf("%s: %+v; %s: %+v; both: %+v", one, a, two, b, c)
		}
	}
	if tried < 1500 || deeper < 300 {
		t.Errorf("%d were tried, of which %d take deeper", tried, deeper)
	}
}

func TestWhatIsHandedInStays(t *testing.T) { // R3, R5: spare room too
	m := &maker{Rand: rand.New(rand.NewSource(1191))}
	for range 200 {
		src := anySource(m)
		if m.Intn(2) == 0 {
			src += " 3 bank { 1 2 3 } 7 bank { }"
		}
		p := spare.Program(taken(t, src))
		before := spare.Whole(p)
		l, e := effect.Shapes(p)
		bad, at := effect.Typable(p)
		if !reflect.DeepEqual(spare.Whole(p), before) {
			t.Fatalf("%s: the program has changed", src)
		}
		plain := taken(t, src)
		k, f := effect.Shapes(plain)
		if e != f || !slices.Equal(k, l) {
			t.Fatalf("%s: %v, %d; with room behind the lists: %v, %d", src, k, f, l, e)
		}
		if g, where := effect.Typable(plain); g != bad || where != at {
			t.Fatalf("%s: %d, %v; with room behind the lists: %d, %v", src, g, where, bad, at)
		}
	}
}

func TestWhatIsHandedOutIsApart(t *testing.T) { // R3, R5: it may be written over, its room too
	src := helpers + ": main two 2drop ;"
	p := taken(t, src)
	before := taken(t, src)
	one := shapesOf(t, src)
	first, _ := effect.Shapes(p)
	second, _ := effect.Shapes(p)
	for i, all := 0, first[:cap(first)]; i < len(all); i++ {
		all[i] = effect.Typed{Name: "other", Err: 99, Pos: pos(9, 9)}
	}
	if !slices.Equal(second, one) {
		t.Errorf("another answer has changed: %v", second)
	}
	if third, e := effect.Shapes(p); e != fine || !slices.Equal(third, one) {
		t.Errorf("what is told later has changed: %v, %d", third, e)
	}
	if !reflect.DeepEqual(p, before) {
		t.Errorf("the program has changed: %+v", p)
	}
	if e, at := effect.Typable(p); e != fine || at != (api.Pos{}) {
		t.Errorf("Typable = %d, %v", e, at)
	}
}

func TestEmptyListsAreOne(t *testing.T) { // R4
	p := taken(t, ": a if then begin until ; : b do loop ; : main begin 1 while repeat ; 3 bank { }")
	q := taken(t, ": a if then begin until ; : b do loop ; : main begin 1 while repeat ; 3 bank { }")
	for i := range q.Defs {
		trees.Each(q.Defs[i].Body, func(n *api.Node) {
			if n.Then == nil {
				n.Then = []api.Node{}
			} else if len(n.Then) == 0 {
				n.Then = nil
			}
			if n.Else == nil {
				n.Else = []api.Node{}
			}
		})
	}
	one, e := effect.Shapes(p)
	two, f := effect.Shapes(q)
	if e != fine || f != fine || !slices.Equal(one, two) {
		t.Errorf("%v, %d; %v, %d", one, e, two, f)
	}
}

func TestLargePrograms(t *testing.T) { // R1: every call ends, in a time that the size bears
	body := make([]api.Node, 400000)
	for i := range body {
		body[i] = api.Node{Kind: 1, Op: 55 + i%2, Pos: pos(1, i)} // >r r>
	}
	p := api.Program{Defs: []api.Def{{Kind: 1, Name: "main", Body: append([]api.Node{{Kind: 2}}, body...)}}}
	if shape := shapeOf(t, p, "main"); shape != (api.Shape{Out: 1, Data: 1, Return: 1}) {
		t.Errorf("a long body: %+v", shape)
	}
	p = api.Program{}
	for i := range 20000 {
		d := api.Def{Kind: 1, Name: "w" + strconv.Itoa(i)}
		for j := range min(i, 9) {
			d.Body = append(d.Body, api.Node{Kind: 3, Name: "w" + strconv.Itoa(i-1-j*i/9), Pos: pos(i, j)})
		}
		p.Defs = append(p.Defs, d)
	}
	p.Defs[len(p.Defs)-1].Name = "main"
	l, e := effect.Shapes(p)
	if e != fine || len(l) != 20000 || l[128].Shape.Return != 128 || l[129].Err != badDepth || l[129].Pos != pos(129, 0) {
		t.Errorf("many words: %d of them, %d, %+v, %+v", len(l), e, l[128], l[129])
	}
	if e, at := effect.Typable(p); e != badDepth || at != pos(129, 0) {
		t.Errorf("many words: Typable = %d, %v", e, at)
	}
	nest := []api.Node{{Kind: 2}, {Kind: 1, Op: 13}}
	for range 32 {
		nest = []api.Node{{Kind: 2}, {Kind: 2}, {Kind: 8, Then: nest}}
	}
	p = api.Program{Defs: []api.Def{{Kind: 1, Name: "main", Body: nest}}}
	if shape := shapeOf(t, p, "main"); shape != (api.Shape{Data: 2, Return: 64}) {
		t.Errorf("structures in one another: %+v", shape)
	}
}
