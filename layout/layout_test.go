package layout_test

import (
	"fmt"
	"math"
	"slices"
	"testing"

	"wisp/api"
	"wisp/layout"
	"wisp/tree"
)

// The errors, kinds and limits by the document's numbers, not by api's names: a slip in one of the two must show.
const (
	fine     = api.Errno(0)
	tooMany  = api.Errno(110)
	tooLong  = api.Errno(111)
	tooGreat = api.Errno(112)

	nodePrim  = 1
	nodeLit   = 2
	nodeCall  = 3
	nodeIf    = 4
	nodeUntil = 5
	nodeWhile = 6
	nodeAgain = 7
	nodeDo    = 8
	nodeExit  = 9

	defWord     = 1
	defConstant = 2
	defVariable = 3

	maxWords = 512
	maxCode  = 16384
	maxRam   = 16384
	mostOps  = 8126 // primitives of one word
	begins   = 128
	dup      = 12
)

const memory uint16 = 0x8000

func prims(many int) []api.Node {
	return slices.Repeat([]api.Node{{Kind: nodePrim, Op: dup}}, many)
}

func word(name string, body ...api.Node) api.Def {
	return api.Def{Kind: defWord, Name: name, Body: body}
}

func constant(name string, value uint16) api.Def {
	return api.Def{Kind: defConstant, Name: name, Value: value}
}

func variable(name string, bytes uint16) api.Def {
	return api.Def{Kind: defVariable, Name: name, Value: bytes}
}

// placeOf is the place in a text that the tests give the definition of that number.
func placeOf(i int) api.Pos { return api.Pos{Line: i + 1, Col: 2*i + 5} }

// program is one of these definitions, each with a place of its own.
func program(defs ...api.Def) api.Program {
	defs = slices.Clone(defs)
	for i := range defs {
		defs[i].Pos = placeOf(i)
	}
	return api.Program{Defs: defs}
}

// taken is the program of a text.
func taken(t *testing.T, src string) api.Program {
	t.Helper()
	p, at, e := tree.Parse(src)
	if e != fine {
		t.Fatalf("the tests' own %.200q: %d at %v", src, e, at)
	}
	return p
}

// wantLaid holds a program to places and sums, and to no error.
func wantLaid(t *testing.T, p api.Program, code, ram int, want ...layout.Place) {
	t.Helper()
	places, c, r, at, e := layout.Of(p)
	if e != fine || at != (api.Pos{}) || c != code || r != ram || !slices.Equal(places, want) {
		t.Errorf("%.200v: %v, code %d, ram %d, %v, %d; want %v, code %d, ram %d", p, places, c, r, at, e, want, code, ram)
	}
}

// wantRoom holds definitions to sums alone.
func wantRoom(t *testing.T, what string, code, ram int, defs ...api.Def) {
	t.Helper()
	places, c, r, at, e := layout.Of(program(defs...))
	if e != fine || at != (api.Pos{}) || c != code || r != ram || len(places) != len(defs) {
		t.Errorf("%s: %d places, code %d, ram %d, %v, %d; want %d places, code %d, ram %d", what, len(places), c, r, at, e, len(defs), code, ram)
	}
}

// wantNoRoom holds definitions to an error at the one of that number, and to nothing else.
func wantNoRoom(t *testing.T, what string, want api.Errno, number int, defs ...api.Def) {
	t.Helper()
	places, c, r, at, e := layout.Of(program(defs...))
	if e != want || at != placeOf(number) || len(places) != 0 || c != 0 || r != 0 {
		t.Errorf("%s: %d places, code %d, ram %d, %v, %d; want %d at %v and nothing else", what, len(places), c, r, at, e, want, placeOf(number))
	}
}

func wantSize(t *testing.T, what string, want int, body ...api.Node) {
	t.Helper()
	if got := layout.Size(body); got != want {
		t.Errorf("%s: Size(%.200v) = %d, want %d", what, body, got, want)
	}
}

func TestExample1(t *testing.T) { // 12.2
	wantLaid(t, taken(t, ": main ;"), 132, 0, layout.Place{Name: "main", At: 128, Size: 4})
}

func TestExample2(t *testing.T) { // 12.2
	wantLaid(t, taken(t, "5 constant k variable v 10 buffer b : main v @ k + if 1 else 2 then ;"), 168, 12,
		layout.Place{Name: "k", At: 128, Size: 4},
		layout.Place{Name: "v", At: 132, Size: 4, Ram: 32768},
		layout.Place{Name: "b", At: 136, Size: 4, Ram: 32770},
		layout.Place{Name: "main", At: 140, Size: 28})
}

func TestExample3(t *testing.T) { // 12.1
	for src, want := range map[string]int{"begin 1 while 2 repeat": 16, "do loop": 6, "begin again": 4, "if then": 4, "if else then": 8} {
		wantSize(t, src, want, taken(t, ": main "+src+" ;").Defs[0].Body...)
	}
}

func TestExample4(t *testing.T) { // 12.2
	wantNoRoom(t, "513 constants", tooMany, 512, slices.Repeat([]api.Def{constant("k", 1)}, 513)...)
	_, _, _, at, e := layout.Of(taken(t, "16384 buffer a\n variable b : main ;"))
	if e != tooGreat || at != (api.Pos{Line: 2, Col: 11}) {
		t.Errorf("16384 buffer a, variable b: %d at %v", e, at)
	}
	wantLaid(t, program(word("w", prims(8126)...)), 16384, 0, layout.Place{Name: "w", At: 128, Size: 16256})
	wantNoRoom(t, "8127 primitives", tooLong, 0, word("w", prims(8127)...))
}

// row is one of 12.1's table that has bodies: its own bytes, and how often each body counts.
type row struct {
	name           string
	node           api.Node
	own, then, els int
}

func rows() []row {
	return []row{
		{"if then", api.Node{Kind: nodeIf}, 4, 1, 0},
		{"if else then", api.Node{Kind: nodeIf, Has: true}, 8, 1, 1},
		{"until", api.Node{Kind: nodeUntil}, 4, 1, 0},
		{"while repeat", api.Node{Kind: nodeWhile}, 8, 1, 1},
		{"again", api.Node{Kind: nodeAgain}, 4, 1, 0},
		{"do loop", api.Node{Kind: nodeDo}, 6, 1, 0},
		{"no kind", api.Node{Kind: 0}, 0, 0, 0},
		{"no kind, with Has", api.Node{Kind: 10, Has: true}, 0, 0, 0},
	}
}

// sized is a body and its bytes by the table.
type sized struct {
	name  string
	body  []api.Node
	bytes int
}

// leaves are bodies without others in them.
func leaves() []sized {
	prim, lit, call, exit := api.Node{Kind: nodePrim, Op: dup}, api.Node{Kind: nodeLit, Value: 7}, api.Node{Kind: nodeCall, Name: "x"}, api.Node{Kind: nodeExit}
	return []sized{
		{"nil", nil, 0},
		{"empty", []api.Node{}, 0},
		{"primitive", []api.Node{prim}, 2},
		{"number", []api.Node{lit}, 4},
		{"name", []api.Node{call}, 2},
		{"exit", []api.Node{exit}, 2},
		{"five", []api.Node{lit, prim, call, lit, exit}, 14},
	}
}

// around are all rows around all pairs of bodies.
func around(bodies []sized) []sized {
	var all []sized
	for _, r := range rows() {
		for _, a := range bodies {
			for _, b := range bodies {
				n := r.node
				n.Then, n.Else = a.body, b.body
				all = append(all, sized{r.name + " of (" + a.name + ") (" + b.name + ")", []api.Node{n}, r.own + r.then*a.bytes + r.els*b.bytes})
			}
		}
	}
	return all
}

func TestEveryRow(t *testing.T) { // 12.1: with bodies that are empty and that are not, in one another
	once := around(leaves())
	// Not all, whose pairs would be too many. Eight goes round through the seven bodies, so that each of them and each row is among these.
	var some []sized
	for i := 0; i < len(once); i += 8 {
		some = append(some, once[i])
	}
	for _, list := range [][]sized{leaves(), once, around(some)} {
		for _, s := range list {
			wantSize(t, s.name, s.bytes, s.body...)
		}
	}
}

func TestOneBehindTheOther(t *testing.T) { // 12.1: sizes add up
	list := append(leaves(), around(leaves()[2:5])...)
	var whole sized
	for i, a := range list {
		b := list[(i*7+3)%len(list)]
		wantSize(t, a.name+", "+b.name, a.bytes+b.bytes, slices.Concat(a.body, b.body)...)
		whole.body, whole.bytes = append(whole.body, a.body...), whole.bytes+a.bytes
	}
	wantSize(t, "all", whole.bytes, whole.body...)
}

func TestFieldsThatAreNotLookedAt(t *testing.T) { // 12.1: an Else without Has, and at other kinds; a Then at nodes that have none; all else that a kind does not use
	five, three := prims(5), prims(3)
	for _, c := range []struct{ kind, bare, want int }{
		{nodePrim, 2, 2}, {nodeLit, 4, 4}, {nodeCall, 2, 2}, {nodeExit, 2, 2},
		{nodeIf, 4, 14}, {nodeUntil, 4, 14}, {nodeAgain, 4, 14}, {nodeDo, 6, 16},
		{0, 0, 0}, {10, 0, 0}, {-1, 0, 0},
	} {
		wantSize(t, "an Else alone", c.bare, api.Node{Kind: c.kind, Else: three})
		wantSize(t, "a Then and an Else", c.want, api.Node{Kind: c.kind, Then: five, Else: three})
		wantSize(t, "all else", c.want, api.Node{Kind: c.kind, Then: five, Op: 63, Value: 65535, Name: "name", Pos: api.Pos{Line: 3, Col: 9}})
		if c.kind != nodeIf {
			wantSize(t, "Has", c.want, api.Node{Kind: c.kind, Then: five, Else: three, Has: true})
		}
	}
	for _, has := range []bool{false, true} {
		wantSize(t, "while", 8+10+6, api.Node{Kind: nodeWhile, Then: five, Else: three, Has: has})
	}
	wantSize(t, "if with Has", 8+10+6, api.Node{Kind: nodeIf, Then: five, Else: three, Has: true})
	wantSize(t, "if with Has and an Else alone", 8+6, api.Node{Kind: nodeIf, Else: three, Has: true})
}

func TestAnyOp(t *testing.T) { // 12.1: a primitive has two bytes whatever its Op, those with an operand too
	for op := -3; op < 70; op++ {
		wantSize(t, "a primitive", 2, api.Node{Kind: nodePrim, Op: op})
	}
	for _, op := range []int{999, math.MaxInt, math.MinInt, 1 << 16, 1<<32 + 3} {
		wantSize(t, "a primitive", 2, api.Node{Kind: nodePrim, Op: op})
	}
}

func TestKindsThatAreNone(t *testing.T) { // 12.1: no bytes, whatever is in them
	for _, kind := range []int{0, 10, 11, 99, -1, -9, 256 + 1, 1<<16 + 2, 1<<32 + 4, math.MaxInt, math.MinInt} {
		odd := api.Node{Kind: kind, Op: dup, Value: 9, Name: "n", Then: prims(4), Else: prims(2), Has: true}
		wantSize(t, "no kind", 0, odd)
		wantSize(t, "between others", 6, api.Node{Kind: nodePrim}, odd, api.Node{Kind: nodeLit}, odd)
		wantSize(t, "inside", 4, api.Node{Kind: nodeUntil, Then: []api.Node{odd, odd}})
	}
}

func TestDeepAndLongBodies(t *testing.T) { // 12.1, R1
	for _, r := range rows()[:6] {
		var body []api.Node
		for i := range 1 << 16 {
			n := r.node
			if r.els > 0 && i%2 == 0 {
				n.Else = body
			} else {
				n.Then = body
			}
			body = []api.Node{n}
		}
		wantSize(t, "65536 times "+r.name, r.own<<16, body...)
		wantNoRoom(t, "65536 times "+r.name, tooLong, 1, variable("v", 2), word("w", body...))
	}
	wantSize(t, "a long body", 2<<20, prims(1<<20)...)
	wantNoRoom(t, "a long body", tooLong, 0, word("w", prims(1<<20)...))
}

func TestEveryKindOfDefinition(t *testing.T) { // 12.2: its size, its address; Value and Body count only where they are used
	five := prims(5)
	for _, kind := range []int{0, 4, 9, -1, 256 + 1, 1<<16 + 3, math.MaxInt, math.MinInt} {
		odd := api.Def{Kind: kind, Name: "odd", Value: 40000, Body: prims(9000)}
		wantLaid(t, program(odd), 128, 0, layout.Place{Name: "odd", At: 128})
		wantLaid(t, program(constant("k", 9), odd, variable("v", 2), odd), 136, 2,
			layout.Place{Name: "k", At: 128, Size: 4}, layout.Place{Name: "odd", At: 132},
			layout.Place{Name: "v", At: 132, Size: 4, Ram: 0x8000}, layout.Place{Name: "odd", At: 136})
	}
	wantLaid(t, program(
		api.Def{Kind: defWord, Name: "w", Value: 65535, Body: five},
		api.Def{Kind: defConstant, Name: "k", Value: 65535, Body: five},
		api.Def{Kind: defVariable, Name: "v", Value: 3, Body: five},
		api.Def{Kind: defVariable, Name: "u", Value: 7},
		word("empty"),
		api.Def{Kind: defConstant, Name: "zero"},
	), 162, 10,
		layout.Place{Name: "w", At: 128, Size: 14},
		layout.Place{Name: "k", At: 142, Size: 4},
		layout.Place{Name: "v", At: 146, Size: 4, Ram: 0x8000},
		layout.Place{Name: "u", At: 150, Size: 4, Ram: 0x8003},
		layout.Place{Name: "empty", At: 154, Size: 4},
		layout.Place{Name: "zero", At: 158, Size: 4})
}

func TestNoDefinitions(t *testing.T) { // 12.2, 12.3, R4
	wantLaid(t, api.Program{}, 128, 0)
	wantLaid(t, api.Program{Defs: []api.Def{}, Banks: []api.Bank{}}, 128, 0)
	wantLaid(t, api.Program{Banks: []api.Bank{{Num: 3, Data: make([]byte, 16384)}, {Num: 99}}}, 128, 0)
}

func TestVariables(t *testing.T) { // 12.2: behind those ahead, by their bytes; also behind a full memory
	for _, bytes := range []uint16{0, 1, 2, 3, 16383, 16384} {
		wantLaid(t, program(variable("v", bytes), constant("k", 60000), variable("z", 0)), 140, int(bytes),
			layout.Place{Name: "v", At: 128, Size: 4, Ram: memory},
			layout.Place{Name: "k", At: 132, Size: 4},
			layout.Place{Name: "z", At: 136, Size: 4, Ram: memory + bytes})
	}
	wantLaid(t, program(variable("a", 1), variable("b", 0), variable("c", 16382), variable("d", 1), variable("e", 0)), 148, 16384,
		layout.Place{Name: "a", At: 128, Size: 4, Ram: 0x8000},
		layout.Place{Name: "b", At: 132, Size: 4, Ram: 0x8001},
		layout.Place{Name: "c", At: 136, Size: 4, Ram: 0x8001},
		layout.Place{Name: "d", At: 140, Size: 4, Ram: 0xbfff},
		layout.Place{Name: "e", At: 144, Size: 4, Ram: 0xc000})
	for _, bytes := range []uint16{16385, 16386, 32767, 32768, 65535} {
		wantNoRoom(t, "a great one", tooGreat, 0, variable("v", bytes))
		wantNoRoom(t, "a great one behind a word", tooGreat, 1, word("w"), variable("v", bytes), variable("z", 0))
	}
}

func TestNamesThatStandTwice(t *testing.T) { // 12.2: each has a place, in their order; names that are none too
	wantLaid(t, program(variable("x", 2), word("x", prims(1)...), variable("x", 2), constant("x", 1), variable("", 2), word("dup")), 154, 6,
		layout.Place{Name: "x", At: 128, Size: 4, Ram: 0x8000},
		layout.Place{Name: "x", At: 132, Size: 6},
		layout.Place{Name: "x", At: 138, Size: 4, Ram: 0x8002},
		layout.Place{Name: "x", At: 142, Size: 4},
		layout.Place{Name: "", At: 146, Size: 4, Ram: 0x8004},
		layout.Place{Name: "dup", At: 150, Size: 4})
}

// eachKind are definitions of each kind that fit in at the end, whatever is full but their number and the code.
func eachKind() []api.Def {
	return []api.Def{word("w"), constant("k", 1), variable("v", 0), {Kind: 0, Name: "odd"}, {Kind: 7, Name: "odd"}}
}

func TestManyDefinitions(t *testing.T) { // 12.2: 512, and one more, of whatever kind
	for _, d := range eachKind() {
		each := 4
		if d.Name == "odd" {
			each = 0
		}
		full := slices.Repeat([]api.Def{d}, maxWords)
		what := fmt.Sprintf("definitions of the kind %d", d.Kind)
		wantRoom(t, "511 "+what, begins+511*each, 0, full[:511]...)
		wantRoom(t, "512 "+what, begins+512*each, 0, full...)
		for _, last := range eachKind() {
			wantNoRoom(t, "one more than 512 "+what, tooMany, 512, append(full, last)...)
		}
		wantNoRoom(t, "1000 "+what, tooMany, 512, slices.Repeat([]api.Def{d}, 1000)...)
	}
}

func TestMuchCode(t *testing.T) { // 12.2: 16384 bytes, and a cell more, by a definition of each kind
	for _, spare := range []int{0, 1, 2, 3, 100} {
		w := word("w", prims(mostOps-spare)...)
		wantRoom(t, "a word", maxCode-2*spare, 0, w)
		for _, d := range eachKind()[:3] {
			what := fmt.Sprintf("a definition of the kind %d behind all but %d bytes", d.Kind, 2*spare)
			if spare < 2 {
				wantNoRoom(t, what, tooLong, 1, w, d)
				wantNoRoom(t, what, tooLong, 2, constant("first", 1), word("w", prims(mostOps-spare-2)...), d, d)
			} else {
				wantRoom(t, what, maxCode-2*spare+4, 0, w, d)
			}
		}
		wantRoom(t, "no kind behind it", maxCode-2*spare, 0, w, eachKind()[3], eachKind()[4])
	}
	for _, bytes := range []int{2, 4, 8, 100, 16256} {
		wantNoRoom(t, "too many", tooLong, 0, word("w", prims(mostOps+bytes/2)...))
	}
	// By any node: as much ahead of it as there may be, and a cell more.
	for _, s := range append(leaves(), around(leaves()[2:4])...) {
		ahead := prims(mostOps - s.bytes/2)
		wantRoom(t, s.name, maxCode, 0, word("w", append(ahead, s.body...)...))
		wantNoRoom(t, s.name, tooLong, 0, word("w", append(prims(len(ahead)+1), s.body...)...))
		wantNoRoom(t, s.name, tooLong, 0, word("w", append(slices.Clone(s.body), prims(len(ahead)+1)...)...))
	}
	many := slices.Repeat([]api.Def{word("w", prims(14)...)}, 508) // 32 bytes each: with the threads just all
	wantRoom(t, "many words", maxCode, 0, many...)
	wantNoRoom(t, "a word more", tooLong, 508, append(many, word("w"))...)
}

func TestManyVariables(t *testing.T) { // 12.2: 16384 bytes, and one more
	full := slices.Repeat([]api.Def{variable("v", 32)}, 512)
	wantRoom(t, "512 variables", begins+512*4, maxRam, full...)
	wantNoRoom(t, "one byte more", tooGreat, 511, append(slices.Clone(full[:511]), variable("v", 33))...)
	for _, first := range []uint16{0, 1, 2, 8192, 16382, 16383, 16384} {
		rest := 16384 - first
		wantRoom(t, "two buffers", begins+8, maxRam, variable("a", first), variable("b", rest))
		wantNoRoom(t, "two buffers, a byte more", tooGreat, 1, variable("a", first), variable("b", rest+1), variable("c", 1))
		wantNoRoom(t, "a third one", tooGreat, 2, variable("a", first), variable("b", rest), variable("c", 1))
		wantRoom(t, "a third one of no bytes", begins+12, maxRam, variable("a", first), variable("b", rest), variable("c", 0))
		if first > 0 { // bytes that come to nothing in sixteen bits are bytes all the same
			wantNoRoom(t, "65536 bytes in all", tooGreat, 1, variable("a", first), variable("b", -first))
		}
	}
	wantNoRoom(t, "65536 bytes", tooGreat, 0, variable("a", 32768), variable("b", 32768))
	wantRoom(t, "values that are no bytes", begins+8, maxRam, constant("k", 65535), variable("a", 16384), api.Def{Kind: 4, Value: 65535})
}

func TestWhichIsTold(t *testing.T) { // 12.2: of one definition the first in the chapter's order; else that of the first definition
	// 511 definitions that leave room for one of four bytes of code and no more, and for no byte of variables.
	most := slices.Concat([]api.Def{variable("a", 16384), word("w", prims(mostOps-2-2-2*509)...)}, slices.Repeat([]api.Def{constant("k", 1)}, 509))
	fits, no := constant("k", 1), api.Def{Kind: 8, Name: "odd"}
	all := append(slices.Clone(most), fits)
	wantRoom(t, "all three just met", maxCode, maxRam, all...)
	wantNoRoom(t, "all three", tooMany, 512, append(slices.Clone(all), variable("v", 1))...)
	wantNoRoom(t, "words and code", tooMany, 512, append(slices.Clone(all), word("v"))...)
	wantNoRoom(t, "words alone", tooMany, 512, append(slices.Clone(all), no)...)
	less := append([]api.Def{variable("a", 16384), word("w")}, slices.Repeat([]api.Def{no}, 510)...)
	wantNoRoom(t, "words and ram", tooMany, 512, append(less, variable("v", 1))...)

	full, half := word("w", prims(mostOps-2)...), variable("a", 16384)
	wantNoRoom(t, "code and ram", tooLong, 2, full, half, variable("v", 1))
	wantNoRoom(t, "code and ram", tooLong, 2, half, full, variable("v", 65535))
	wantNoRoom(t, "code alone", tooLong, 2, half, full, variable("v", 0))
	wantNoRoom(t, "ram alone", tooGreat, 2, half, word("w", prims(mostOps-4)...), variable("v", 1))

	great, long := variable("b", 20000), word("l", prims(9000)...)
	wantNoRoom(t, "ram ahead of code", tooGreat, 0, great, long)
	wantNoRoom(t, "code ahead of ram", tooLong, 0, long, great)
	wantNoRoom(t, "ram ahead of all", tooGreat, 1, append([]api.Def{no, great, long}, all...)...)
	wantNoRoom(t, "code ahead of words", tooLong, 511, append(slices.Clone(most), long, no, no)...)
	wantNoRoom(t, "ram ahead of words", tooGreat, 511, append(slices.Clone(most), variable("v", 1), no, no)...)
	wantNoRoom(t, "words ahead of code", tooMany, 512, append(slices.Clone(all), no, long, great)...)
}
