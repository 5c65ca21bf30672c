package layout_test

import (
	"fmt"
	"math/rand"
	"reflect"
	"slices"
	"strconv"
	"strings"
	"testing"

	"wisp/api"
	"wisp/emit"
	"wisp/layout"
	"wisp/tree"
	"wisp/vm"
)

// made is a program's code, cell by cell, by chapter 13: a second reckoning, that makes what layout only counts.
type made struct {
	cells []uint16
	at    []int // where each definition's code field lies
	ram   []int // how many bytes of variables are ahead of each definition
	bytes int   // of variables
	named map[string]int
}

func madeOf(defs []api.Def) *made {
	m := &made{named: map[string]int{}}
	for k := range 64 {
		m.put(k)
	}
	for _, d := range defs {
		m.define(d)
	}
	return m
}

func (m *made) here() int { return 2 * len(m.cells) }

func (m *made) put(list ...int) {
	for _, x := range list {
		m.cells = append(m.cells, uint16(x))
	}
}

func (m *made) define(d api.Def) {
	m.at, m.ram = append(m.at, m.here()), append(m.ram, m.bytes)
	m.named[d.Name] = m.here()
	switch d.Kind {
	case defWord:
		m.put(1)
		m.body(d.Body)
		m.put(16)
	case defConstant:
		m.put(2, int(d.Value))
	case defVariable:
		m.put(2, 0x8000+m.bytes)
		m.bytes += int(d.Value)
	}
}

// open puts a branch there whose target is not known yet, and tells what sets it to what comes next.
func (m *made) open(thread int) (close func()) {
	m.put(thread, 0)
	target := len(m.cells) - 1
	return func() { m.cells[target] = uint16(m.here()) }
}

func (m *made) body(list []api.Node) {
	const lit, branch, zbranch, do, loop, exit = 6, 8, 10, 12, 14, 16
	for _, n := range list {
		begin := m.here()
		switch n.Kind {
		case nodePrim:
			m.put(2 * n.Op)
		case nodeLit:
			m.put(lit, int(n.Value))
		case nodeCall:
			m.put(m.named[n.Name])
		case nodeIf:
			close := m.open(zbranch)
			m.body(n.Then)
			if n.Has {
				behind := m.open(branch)
				close()
				m.body(n.Else)
				close = behind
			}
			close()
		case nodeUntil:
			m.body(n.Then)
			m.put(zbranch, begin)
		case nodeWhile:
			m.body(n.Then)
			close := m.open(zbranch)
			m.body(n.Else)
			m.put(branch, begin)
			close()
		case nodeAgain:
			m.body(n.Then)
			m.put(branch, begin)
		case nodeDo:
			m.put(do)
			m.body(n.Then)
			m.put(loop, begin+2)
		case nodeExit:
			m.put(exit)
		}
	}
}

func TestTheReckoning(t *testing.T) { // chapter 13's examples: the tests' own code is right
	for src, want := range map[string][]uint16{
		": main ;": {1, 16},
		"7 constant seven variable v : main seven v ! ;": {2, 7, 2, 0x8000, 1, 128, 132, 102, 16},
		": main begin 1 while 2 drop repeat ;":           {1, 6, 1, 10, 148, 6, 2, 26, 8, 130, 16},
	} {
		if m := madeOf(taken(t, src).Defs); !slices.Equal(m.cells[64:], want) {
			t.Errorf("%s: %v, want %v", src, m.cells[64:], want)
		}
	}
}

// wantReckoned holds a program to the second reckoning, errors too, and tells what Of does.
func wantReckoned(t *testing.T, p api.Program) ([]layout.Place, api.Errno) {
	t.Helper()
	places, code, ram, at, e := layout.Of(p)
	m := madeOf(nil)
	var want []layout.Place
	for i, d := range p.Defs {
		m.define(d)
		x := layout.Place{Name: d.Name, At: uint16(m.at[i]), Size: m.here() - m.at[i]}
		if d.Kind == defVariable {
			x.Ram = uint16(0x8000 + m.ram[i])
		}
		want = append(want, x)
		bad := fine
		switch {
		case i+1 > maxWords:
			bad = tooMany
		case m.here() > maxCode:
			bad = tooLong
		case m.bytes > maxRam:
			bad = tooGreat
		}
		if bad != fine {
			if e != bad || at != d.Pos || len(places) != 0 || code != 0 || ram != 0 {
				t.Fatalf("%.300v: %d places, code %d, ram %d, %d at %v; want %d at %v and nothing else", p, len(places), code, ram, e, at, bad, d.Pos)
			}
			return nil, e
		}
	}
	if e != fine || at != (api.Pos{}) || code != m.here() || ram != m.bytes || !slices.Equal(places, want) {
		t.Fatalf("%.300v: %v, code %d, ram %d, %d at %v; want %v, code %d, ram %d", p, places, code, ram, e, at, want, m.here(), m.bytes)
	}
	return places, e
}

// maker makes programs of all sorts.
type maker struct{ *rand.Rand }

func makerOf(seed int64) maker { return maker{rand.New(rand.NewSource(seed))} }

// list makes one that has room behind it, with something there.
func list[T any](many int, one func(i int) T) []T {
	all := make([]T, 0, many+2)
	for i := range cap(all) {
		all = append(all, one(i))
	}
	return all[:many]
}

// anyNodes makes nodes of any kind, whose fields have something even where their kind does not use it.
func (m maker) anyNodes(most, deep int) []api.Node {
	return list(m.Intn(most+1), func(int) api.Node {
		n := api.Node{Kind: m.Intn(12) - 1, Op: m.Intn(70) - 3, Value: uint16(m.Intn(65536)), Name: m.name(), Has: m.Intn(2) == 0, Pos: m.place()}
		if deep > 0 && m.Intn(3) == 0 {
			n.Then, n.Else = m.anyNodes(min(most, 4), deep-1), m.anyNodes(min(most, 4), deep-1)
		}
		return n
	})
}

func (m maker) name() string { return strconv.Itoa(m.Intn(5)) }

func (m maker) place() api.Pos { return api.Pos{Line: 1 + m.Intn(99), Col: 1 + m.Intn(99)} }

// anyProgram makes one that nobody checks: some have no room, the more so the greater it may be.
func (m maker) anyProgram(defs, nodes, bytes int) api.Program {
	return api.Program{
		Defs: list(m.Intn(defs+1), func(i int) api.Def {
			kinds := []int{defWord, defWord, defWord, defConstant, defVariable, defVariable, 0, 4}
			d := api.Def{Kind: kinds[m.Intn(len(kinds))], Name: m.name(), Value: uint16(m.Intn(bytes + 1)), Pos: api.Pos{Line: i + 1, Col: 1 + m.Intn(99)}}
			if d.Kind == defWord {
				d.Body = m.anyNodes(nodes, 3)
			} else {
				d.Body = m.anyNodes(1, 1)
			}
			return d
		}),
		Banks: list(m.Intn(3), func(i int) api.Bank { return api.Bank{Num: i, Data: list(3, func(int) byte { return 7 })} }),
	}
}

// sizes are what anyProgram may be asked: small ones, and such as pass the one, the other or the third limit now and then.
var sizes = []struct{ defs, nodes, bytes int }{{4, 4, 100}, {20, 6, 1500}, {8, 3, 65535}, {1000, 1, 20}, {300, 80, 10}, {20, 1500, 10}, {500, 4, 300}}

func (m maker) some() api.Program {
	s := sizes[m.Intn(len(sizes))]
	return m.anyProgram(s.defs, s.nodes, s.bytes)
}

func TestAnyProgram(t *testing.T) { // 12.1, 12.2
	m := makerOf(1201)
	met := map[api.Errno]int{}
	for range 400 {
		p := m.some()
		_, e := wantReckoned(t, p)
		met[e]++
		for _, d := range p.Defs {
			if got, want := layout.Size(d.Body), madeOf([]api.Def{word("w", d.Body...)}).here()-128-4; got != want {
				t.Fatalf("Size(%.300v) = %d, want %d", d.Body, got, want)
			}
		}
	}
	for _, e := range []api.Errno{fine, tooMany, tooLong, tooGreat} {
		if met[e] < 20 {
			t.Errorf("%d was met %d times", e, met[e])
		}
	}
}

func TestPlacesFollowOneAnother(t *testing.T) { // 12.3
	m := makerOf(1203)
	laid := 0
	for range 500 {
		p := m.some()
		places, code, _, _, e := layout.Of(p)
		if e != fine {
			continue
		}
		laid++
		end := 128
		for i, x := range places {
			if int(x.At) != end {
				t.Fatalf("%.300v: place %d of %v lies not at %d", p, i, places, end)
			}
			end += x.Size
		}
		if code != end || len(places) != len(p.Defs) {
			t.Fatalf("%.300v: %d places, code %d, want %d", p, len(places), code, end)
		}
	}
	if laid < 200 {
		t.Errorf("%d programs had room", laid)
	}
}

func TestFirstDefinitionsLieWhereTheyLay(t *testing.T) { // 12.5
	m := makerOf(1205)
	had := 0
	for range 200 {
		p := m.some()
		whole, _, _, at, e := layout.Of(p)
		places, code, ram, _, _ := layout.Of(api.Program{})
		for i, d := range p.Defs {
			more, c, r, where, f := layout.Of(api.Program{Defs: p.Defs[:i+1]})
			if f != fine {
				// What has no room with the first ones has none with all.
				if where != d.Pos || at != d.Pos || e != f {
					t.Fatalf("%.300v: with the first %d: %d at %v; with all: %d at %v", p, i+1, f, where, e, at)
				}
				break
			}
			last := layout.Place{Name: d.Name, At: uint16(code), Size: c - code}
			if d.Kind == defVariable {
				last.Ram = uint16(0x8000 + ram)
			}
			if len(more) != i+1 || !slices.Equal(more[:i], places) || more[i] != last {
				t.Fatalf("%.300v: %v, with one more %v", p, places, more)
			}
			places, code, ram = more, c, r
			had++
		}
		if e == fine && !slices.Equal(whole, places) {
			t.Fatalf("%.300v: %v, one by one %v", p, whole, places)
		}
	}
	if had < 5000 {
		t.Errorf("%d had room", had)
	}
}

// wellNodes makes nodes as tree.Check takes them, that call the names so far.
func (m maker) wellNodes(most, deep int, names []string, inDo bool) []api.Node {
	return list(m.Intn(most+1), func(int) api.Node {
		kind := 1 + m.Intn(9)
		if deep == 0 && kind >= nodeIf && kind <= nodeDo || inDo && kind == nodeExit || kind == nodeCall && len(names) == 0 {
			kind = nodePrim
		}
		n := api.Node{Kind: kind}
		switch kind {
		case nodePrim:
			n.Op = 9 + m.Intn(55)
		case nodeLit:
			n.Value = uint16(m.Intn(65536))
		case nodeCall:
			n.Name = names[m.Intn(len(names))]
		case nodeExit:
		default:
			n.Has = kind == nodeIf && m.Intn(2) == 0
			n.Then = m.wellNodes(most/2, deep-1, names, inDo || kind == nodeDo)
			if n.Has || kind == nodeWhile {
				n.Else = m.wellNodes(most/2, deep-1, names, inDo)
			}
		}
		return n
	})
}

// wellFormed makes a text that tree.Parse takes.
func (m maker) wellFormed(t *testing.T) string {
	t.Helper()
	var p api.Program
	var names []string
	for i := range m.Intn(12) {
		d := api.Def{Kind: 1 + m.Intn(3), Name: "n" + strconv.Itoa(i)}
		switch d.Kind {
		case defWord:
			d.Body = m.wellNodes(20, 4, names, false)
		case defConstant:
			d.Value = uint16(m.Intn(65536))
		case defVariable:
			d.Value = uint16(m.Intn(2000))
		}
		names = append(names, d.Name)
		p.Defs = append(p.Defs, d)
	}
	p.Defs = append(p.Defs, word("main", m.wellNodes(20, 4, names, false)...))
	src, e := tree.Print(p)
	if e != fine {
		t.Fatalf("the tests' own %v: %d", p, e)
	}
	return src
}

func cellAt(code []byte, at uint16) uint16 { return uint16(code[at]) + 256*uint16(code[at+1]) }

func TestCodeLiesThere(t *testing.T) { // 12.4: the code of a source, as layer 13 makes it, and as these tests do
	m := makerOf(1204)
	for range 1000 {
		src := m.wellFormed(t)
		p := taken(t, src)
		places, size, _, _, e := layout.Of(p)
		code, f := emit.Code(p)
		c := madeOf(p.Defs)
		if e != fine || f != fine || size != len(code) || size != 2*len(c.cells) {
			t.Fatalf("%s: code %d, %d; emit.Code has %d bytes, %d; want %d cells", src, size, e, len(code), f, len(c.cells))
		}
		for i, x := range places {
			field, behind := cellAt(code, x.At), cellAt(code, x.At+2)
			kind := p.Defs[i].Kind
			if int(x.At) != c.at[i] || kind == defWord && field != 1 || kind != defWord && field != 2 {
				t.Fatalf("%s: %+v: the cell there is %d", src, x, field)
			}
			if kind == defVariable && behind != x.Ram || kind != defVariable && x.Ram != 0 {
				t.Fatalf("%s: %+v: the cell behind is %d", src, x, behind)
			}
		}
	}
}

func TestAProgramRunsThere(t *testing.T) { // 12.2, 12.4: main's place is where a machine may begin, a variable's where it is written
	p := taken(t, "5 constant k variable v 10 buffer b 0 buffer none variable w : sq dup * ; : main 0 10 0 do i sq + loop v ! k b 9 + c! begin v @ 1+ dup w ! until none @ if 1 else 2 then b c! ;")
	places, size, _, _, e := layout.Of(p)
	var code []byte
	for _, x := range madeOf(p.Defs).cells {
		code = append(code, byte(x), byte(x>>8))
	}
	if e != fine || len(code) != size {
		t.Fatalf("code %d, %d; %d bytes", size, e, len(code))
	}
	by := map[string]layout.Place{}
	for _, x := range places {
		by[x.Name] = x
	}
	machine, e := vm.New(api.Cart{Code: code, Entry: by["main"].At})
	if e != fine {
		t.Fatalf("vm.New: %d", e)
	}
	if out, e := machine.Frame(0, 16384); e != fine || out.Status != 2 {
		t.Fatalf("the frame's status is %d, fault %d, %d", out.Status, out.Fault, e)
	}
	space := machine.Memory()
	if v, w := space.Cell(by["v"].Ram), space.Cell(by["w"].Ram); v != 285 || w != 286 {
		t.Errorf("v is %d, w is %d", v, w)
	}
	if first, last := space.Load(by["b"].Ram), space.Load(by["b"].Ram+9); first != 1 || last != 5 {
		t.Errorf("b begins with %d and ends with %d", first, last)
	}
	if by["none"].Ram != by["w"].Ram || by["none"].Ram != by["b"].Ram+10 {
		t.Errorf("none, w and b lie at %v", places)
	}
}

func TestPlacesAndBanksDoNotMatter(t *testing.T) { // 12.2, R5: nor numbers, names and Ops in bodies
	m := makerOf(1206)
	for range 300 {
		p := m.some()
		places, code, ram, at, e := layout.Of(p)
		q := api.Program{Defs: slices.Clone(p.Defs), Banks: []api.Bank{{Num: 40, Data: make([]byte, 20000)}}}
		for i := range q.Defs {
			q.Defs[i].Body, q.Defs[i].Pos = otherwise(q.Defs[i].Body), placeOf(i)
			if p.Defs[i].Kind != defVariable {
				q.Defs[i].Value++
			}
		}
		other, c, r, where, f := layout.Of(q)
		if f != e || c != code || r != ram || !slices.Equal(other, places) {
			t.Fatalf("%.300v: %v, %d, %d, %d; with other places: %v, %d, %d, %d", p, places, code, ram, e, other, c, r, f)
		}
		if e != fine && where != placeOf(at.Line-1) {
			t.Fatalf("%.300v: %d at %v; with other places at %v", p, e, at, where)
		}
	}
}

func otherwise(body []api.Node) []api.Node {
	body = slices.Clone(body)
	for i := range body {
		n := &body[i]
		n.Op, n.Value, n.Name, n.Pos = n.Op+1, n.Value+1, n.Name+"x", api.Pos{}
		n.Then, n.Else = otherwise(n.Then), otherwise(n.Else)
	}
	return body
}

// tellNodes and told tell a program with all that lies in the room of its lists.
func tellNodes(b *strings.Builder, list []api.Node) {
	fmt.Fprint(b, "(", len(list))
	for _, n := range list[:cap(list)] {
		fmt.Fprint(b, " ", n.Kind, n.Op, n.Value, n.Name, n.Has, n.Pos)
		tellNodes(b, n.Then)
		tellNodes(b, n.Else)
	}
	b.WriteString(")")
}

func told(p api.Program) string {
	var b strings.Builder
	fmt.Fprint(&b, len(p.Defs), len(p.Banks))
	for _, d := range p.Defs[:cap(p.Defs)] {
		fmt.Fprint(&b, "\n", d.Kind, d.Name, d.Value, d.Pos)
		tellNodes(&b, d.Body)
	}
	for _, k := range p.Banks[:cap(p.Banks)] {
		fmt.Fprint(&b, "\n", k.Num, len(k.Data), k.Data[:cap(k.Data)])
	}
	return b.String()
}

func TestWhatIsHandedInStays(t *testing.T) { // R3: spare room too; R5: what lies there does not matter
	m := makerOf(1207)
	for range 50 {
		p := m.some()
		before := told(p)
		places, code, ram, at, e := layout.Of(p)
		for _, d := range p.Defs {
			layout.Size(d.Body)
		}
		if told(p) != before {
			t.Fatalf("%.300v: the program has changed", p)
		}
		tight := api.Program{Defs: slices.Clip(slices.Clone(p.Defs))}
		for i := range tight.Defs {
			tight.Defs[i].Body = slices.Clip(slices.Clone(tight.Defs[i].Body))
		}
		other, c, r, where, f := layout.Of(tight)
		if !slices.Equal(other, places) || c != code || r != ram || where != at || f != e {
			t.Fatalf("%.300v: %v, %d, %d, %v, %d; without room: %v, %d, %d, %v, %d", p, places, code, ram, at, e, other, c, r, where, f)
		}
	}
}

func TestWhatIsHandedOutIsApart(t *testing.T) { // R3, R5: it may be written over, its room too
	m := makerOf(1208)
	had := 0
	for range 50 {
		p := m.some()
		before := told(p)
		first, _, _, _, e := layout.Of(p)
		want := slices.Clone(first)
		second, _, _, _, _ := layout.Of(p)
		for i, all := 0, first[:cap(first)]; i < len(all); i++ {
			all[i] = layout.Place{Name: "other", At: 1, Size: 1, Ram: 1}
		}
		// Ahead of a third call, which could put right again what two answers share.
		if !slices.Equal(second, want) || told(p) != before {
			t.Fatalf("%.300v: with one answer written over another is %v, want %v", p, second, want)
		}
		if third, _, _, _, f := layout.Of(p); f != e || !slices.Equal(third, want) {
			t.Fatalf("%.300v: behind an answer that was written over: %v, %d, want %v, %d", p, third, f, want, e)
		}
		if e == fine {
			had++
		}
	}
	if had < 10 {
		t.Errorf("%d had room", had)
	}
}

func TestForm(t *testing.T) { // the chapter's type, field by field
	want := []reflect.StructField{}
	for _, f := range []struct {
		name string
		of   any
	}{{"Name", ""}, {"At", uint16(0)}, {"Size", 0}, {"Ram", uint16(0)}} {
		want = append(want, reflect.StructField{Name: f.name, Type: reflect.TypeOf(f.of)})
	}
	place := reflect.TypeOf(layout.Place{})
	if place.NumField() != len(want) {
		t.Fatalf("Place has %d fields", place.NumField())
	}
	for i, w := range want {
		if f := place.Field(i); f.Name != w.Name || f.Type != w.Type {
			t.Errorf("field %d is %s %v, want %s %v", i, f.Name, f.Type, w.Name, w.Type)
		}
	}
}
