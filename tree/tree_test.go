package tree_test

import (
	"fmt"
	"math/rand"
	"reflect"
	"slices"
	"strings"
	"testing"

	"wisp/api"
	"wisp/tree"
)

// The errors, kinds and limits by the document's numbers, not by api's names: a slip in one of the two must show.
const (
	fine      = api.Errno(0)
	noCell    = api.Errno(21)
	tooLong   = api.Errno(90)
	badByte   = api.Errno(91)
	stillOpen = api.Errno(92)
	tooWide   = api.Errno(93)
	badTop    = api.Errno(100)
	badName   = api.Errno(101)
	twice     = api.Errno(102)
	badWord   = api.Errno(103)
	badPair   = api.Errno(104)
	tooEarly  = api.Errno(105)
	badValue  = api.Errno(106)
	noMain    = api.Errno(107)
	badLeave  = api.Errno(108)
	tooDeep   = api.Errno(109)

	defWord, defConstant, defVariable = 1, 2, 3

	nodePrim, nodeLit, nodeCall, nodeIf, nodeUntil, nodeWhile, nodeAgain, nodeDo, nodeExit = 1, 2, 3, 4, 5, 6, 7, 8, 9

	maxSource = 65536
	maxNest   = 32
	maxBank   = 16384
)

// primNames are the names of the primitives 9 to 63, by DOC.md's table.
const primNames = "nop yield halt dup drop swap over rot nip tuck 2dup 2drop + - * / mod u/ umod negate abs min max 1+ 1- 2* 2/ and or xor invert lshift rshift = <> < > u< u> 0= 0< @ ! c@ c! +! >r r> r@ i j plot pad tone bank"

// ownWords are the reserved words that are no primitives; bank is one too.
const ownWords = ": ; constant variable buffer { } if else then begin until while repeat again do loop exit"

var (
	allPrims = strings.Fields(primNames)
	allOwn   = strings.Fields(ownWords)
)

func opOf(name string) int { return 9 + slices.Index(allPrims, name) }

func isPrim(name string) bool { return slices.Contains(allPrims, name) }

func isOwn(name string) bool { return slices.Contains(allOwn, name) }

func pos(line, col int) api.Pos { return api.Pos{Line: line, Col: col} }

// What a node is, without a place.
func prim(name string) api.Node { return api.Node{Kind: nodePrim, Op: opOf(name)} }
func lit(x uint16) api.Node     { return api.Node{Kind: nodeLit, Value: x} }
func call(name string) api.Node { return api.Node{Kind: nodeCall, Name: name} }
func exit() api.Node            { return api.Node{Kind: nodeExit} }

func structure(kind int, then ...api.Node) api.Node { return api.Node{Kind: kind, Then: then} }

func twoParts(kind int, has bool, then, other []api.Node) api.Node {
	return api.Node{Kind: kind, Has: has, Then: then, Else: other}
}

func nodes(list ...api.Node) []api.Node { return list }

func at(line, col int, n api.Node) api.Node {
	n.Pos = pos(line, col)
	return n
}

func word(name string, body ...api.Node) api.Def {
	return api.Def{Kind: defWord, Name: name, Body: body}
}

func constant(name string, x uint16) api.Def {
	return api.Def{Kind: defConstant, Name: name, Value: x}
}

func variable(name string, x uint16) api.Def {
	return api.Def{Kind: defVariable, Name: name, Value: x}
}

func defs(list ...api.Def) api.Program { return api.Program{Defs: list} }

func withBanks(p api.Program, banks ...api.Bank) api.Program {
	p.Banks = banks
	return p
}

func brief(s string) string {
	if len(s) > 120 {
		return fmt.Sprintf("%q.. of %d bytes", s[:120], len(s))
	}
	return fmt.Sprintf("%q", s)
}

// plainly is a program with nil for each list without elements, so that two can be held against each other whole.
func plainly(p api.Program) api.Program {
	var q api.Program
	for _, d := range p.Defs {
		d.Body = plainNodes(d.Body)
		q.Defs = append(q.Defs, d)
	}
	for _, b := range p.Banks {
		q.Banks = append(q.Banks, api.Bank{Num: b.Num, Data: append([]byte(nil), b.Data...)})
	}
	return q
}

func plainNodes(list []api.Node) []api.Node {
	var out []api.Node
	for _, n := range list {
		n.Then, n.Else = plainNodes(n.Then), plainNodes(n.Else)
		out = append(out, n)
	}
	return out
}

// placeless is a program, as plainly has it, without places.
func placeless(p api.Program) api.Program {
	q := plainly(p)
	for i := range q.Defs {
		q.Defs[i].Pos = api.Pos{}
		noPlaces(q.Defs[i].Body)
	}
	return q
}

func noPlaces(list []api.Node) {
	for i := range list {
		list[i].Pos = api.Pos{}
		noPlaces(list[i].Then)
		noPlaces(list[i].Else)
	}
}

func equal(a, b api.Program) bool { return reflect.DeepEqual(plainly(a), plainly(b)) }

func alike(a, b api.Program) bool { return reflect.DeepEqual(placeless(a), placeless(b)) }

// taken is what Parse answers of a text that is well formed.
func taken(t *testing.T, src string) api.Program {
	t.Helper()
	p, place, e := tree.Parse(src)
	if e != fine || place != (api.Pos{}) {
		t.Fatalf("Parse(%s): %d at %v", brief(src), e, place)
	}
	return p
}

// wantParsed holds Parse to a program, places too.
func wantParsed(t *testing.T, src string, want api.Program) {
	t.Helper()
	if got := taken(t, src); !equal(got, want) {
		t.Errorf("Parse(%s) = %+v, want %+v", brief(src), got, want)
	}
}

// wantBody holds Parse to the body of main, but for places.
func wantBody(t *testing.T, body string, want ...api.Node) {
	t.Helper()
	src := ": main " + body + " ;"
	if got := taken(t, src); !alike(got, defs(word("main", want...))) {
		t.Errorf("Parse(%s) = %+v, want the body %+v", brief(src), got, want)
	}
}

// wantError holds Parse to one error, at its place, and to no program beside it.
func wantError(t *testing.T, src string, line, col int, want api.Errno) {
	t.Helper()
	p, place, e := tree.Parse(src)
	if e != want || place != pos(line, col) || len(p.Defs) != 0 || len(p.Banks) != 0 {
		t.Errorf("Parse(%s) = %d at %v (%d definitions), want %d at %d:%d", brief(src), e, place, len(p.Defs), want, line, col)
	}
}

// wantErrorAt is wantError of a text in which the token that is told stands behind the mark ^, which is taken out of it. All stands in one line.
func wantErrorAt(t *testing.T, marked string, want api.Errno) {
	t.Helper()
	i := strings.Index(marked, "^")
	if i < 0 || strings.Count(marked, "^") != 1 || strings.Contains(marked, "\n") {
		t.Fatalf("%q: not one mark in one line", marked)
	}
	wantError(t, marked[:i]+marked[i+1:], 1, i+1, want)
}

func TestExample1(t *testing.T) { // 10.1, 10.3
	src := ": main 7 drop ;"
	p := api.Program{Defs: []api.Def{{Kind: 1, Name: "main", Pos: pos(1, 3), Body: []api.Node{{Kind: 2, Value: 7, Pos: pos(1, 8)}, {Kind: 1, Op: 13, Pos: pos(1, 10)}}}}}
	wantParsed(t, src, p)
	wantPrint(t, p, src+"\n")
}

func TestExample2(t *testing.T) { // 10.1
	wantParsed(t, ": sq dup * ; 3 constant three variable v 40 buffer b : main begin three sq v ! again ; 2 bank { 1 255 }", api.Program{
		Defs: []api.Def{
			{Kind: 1, Name: "sq", Pos: pos(1, 3), Body: []api.Node{{Kind: 1, Op: 12, Pos: pos(1, 6)}, {Kind: 1, Op: 23, Pos: pos(1, 10)}}},
			{Kind: 2, Name: "three", Value: 3, Pos: pos(1, 25)},
			{Kind: 3, Name: "v", Value: 2, Pos: pos(1, 40)},
			{Kind: 3, Name: "b", Value: 40, Pos: pos(1, 52)},
			{Kind: 1, Name: "main", Pos: pos(1, 56), Body: []api.Node{{Kind: 7, Pos: pos(1, 61), Then: []api.Node{
				{Kind: 3, Name: "three", Pos: pos(1, 67)}, {Kind: 3, Name: "sq", Pos: pos(1, 73)}, {Kind: 3, Name: "v", Pos: pos(1, 76)}, {Kind: 1, Op: 51, Pos: pos(1, 78)}}}}},
		},
		Banks: []api.Bank{{Num: 2, Data: []byte{1, 255}}},
	})
}

func TestExample3(t *testing.T) { // 10.1
	wantError(t, "", 1, 1, noMain)
	wantError(t, "main", 1, 1, badTop)
	wantError(t, ": 7 ;", 1, 3, badName)
	wantError(t, ": dup ;", 1, 3, badName)
	wantError(t, ": a ; : a ;", 1, 9, twice)
	wantError(t, ": main main ;", 1, 8, badWord)
	wantError(t, ": main if ;", 1, 11, badPair)
	wantError(t, ": main", 1, 7, tooEarly)
	wantError(t, "7 8", 1, 3, badTop)
	wantError(t, "7", 1, 2, tooEarly)
	wantError(t, "20000 buffer b", 1, 1, badValue)
	wantError(t, "16 bank { }", 1, 1, badValue)
	wantError(t, "1 bank { 256 }", 1, 10, badValue)
	wantError(t, "1 bank { x }", 1, 10, badValue)
	wantError(t, "1 bank { } 1 bank { }", 1, 12, twice)
	wantError(t, "1 constant main", 1, 16, noMain)
}

func TestExample4(t *testing.T) { // 10.1
	wantError(t, ": main 3 0 do if exit then loop ;", 1, 18, badLeave)
	wantError(t, ": main "+strings.Repeat("if ", 33), 1, 8+3*32, tooDeep)
	wantError(t, ": main "+strings.Repeat("if ", 32), 1, 8+3*32, tooEarly)
}

func TestExample5(t *testing.T) { // 10.1
	wantErrorAt(t, ": main ^else ;", badPair)
	wantErrorAt(t, ": main if begin ^then ;", badPair)
	wantErrorAt(t, ": main begin while ^until ;", badPair)
	wantErrorAt(t, ": main ^: x ;", badPair)
}

func TestScanErrors(t *testing.T) { // 10.1: they come first, whatever else is wrong ahead of them
	wantErrorAt(t, "main ^70000", noCell)
	wantErrorAt(t, "main main ^\x01", badByte)
	wantErrorAt(t, ": main ^( ;", stillOpen)
	wantErrorAt(t, ": main ^"+strings.Repeat("a", 32)+" ;", tooWide)
	wantError(t, ": a\n  ;\n ; 70000", 3, 4, noCell)
	wantError(t, strings.Repeat(" ", maxSource+1), 1, 1, tooLong)
	wantError(t, "main"+strings.Repeat("\n", maxSource), 1, 1, tooLong)
	wantError(t, strings.Repeat("\n", maxSource), maxSource+1, 1, noMain)
	wantParsed(t, ": main ;"+strings.Repeat(" ", maxSource-8), api.Program{Defs: []api.Def{{Kind: 1, Name: "main", Pos: pos(1, 3)}}})
}

func TestNodes(t *testing.T) { // 10.1: what each node comes to
	wantBody(t, "")
	wantBody(t, "0 65535 -1 $ff %101 'a'", lit(0), lit(65535), lit(65535), lit(255), lit(5), lit(97))
	for i, name := range strings.Fields(primNames) {
		wantBody(t, name, api.Node{Kind: 1, Op: 9 + i})
	}
	if opOf("bank") != 63 {
		t.Fatal("the tests' own table is not whole")
	}
	wantBody(t, "exit", exit())
	wantBody(t, "exit exit dup", exit(), exit(), prim("dup"))
	wantBody(t, "if then", structure(nodeIf))
	wantBody(t, "if 1 2 then 3", structure(nodeIf, lit(1), lit(2)), lit(3))
	wantBody(t, "if else then", twoParts(nodeIf, true, nil, nil))
	wantBody(t, "if 1 else 2 3 then 4", twoParts(nodeIf, true, nodes(lit(1)), nodes(lit(2), lit(3))), lit(4))
	wantBody(t, "if else 2 then", twoParts(nodeIf, true, nil, nodes(lit(2))))
	wantBody(t, "begin until", structure(nodeUntil))
	wantBody(t, "begin 1 until 2", structure(nodeUntil, lit(1)), lit(2))
	wantBody(t, "begin again", structure(nodeAgain))
	wantBody(t, "begin 1 again 2", structure(nodeAgain, lit(1)), lit(2))
	wantBody(t, "begin while repeat", structure(nodeWhile))
	wantBody(t, "begin 1 while 2 3 repeat 4", twoParts(nodeWhile, false, nodes(lit(1)), nodes(lit(2), lit(3))), lit(4))
	wantBody(t, "begin 1 while repeat", structure(nodeWhile, lit(1)))
	wantBody(t, "begin while 1 repeat", twoParts(nodeWhile, false, nil, nodes(lit(1))))
	wantBody(t, "do loop", structure(nodeDo))
	wantBody(t, "5 0 do i loop 2", lit(5), lit(0), structure(nodeDo, prim("i")), lit(2))
	wantBody(t, "if begin do loop while if else then repeat else begin until begin again then",
		twoParts(nodeIf, true,
			nodes(twoParts(nodeWhile, false, nodes(structure(nodeDo)), nodes(twoParts(nodeIf, true, nil, nil)))),
			nodes(structure(nodeUntil), structure(nodeAgain))))
}

func TestItems(t *testing.T) { // 10.1: what each item comes to
	main := word("main")
	for _, c := range []struct {
		src  string
		want api.Program
	}{
		{": main ;", defs(main)},
		{": a 1 ; : main a ;", defs(word("a", lit(1)), word("main", call("a")))},
		{": main ; : a main ;", defs(main, word("a", call("main")))},
		{"0 constant c : main c ;", defs(constant("c", 0), word("main", call("c")))},
		{"-1 constant c : main ;", defs(constant("c", 65535), main)},
		{"65535 constant c : main ;", defs(constant("c", 65535), main)},
		{"variable v : main v ;", defs(variable("v", 2), word("main", call("v")))},
		{"2 buffer b : main b ;", defs(variable("b", 2), word("main", call("b")))},
		{"0 buffer b : main ;", defs(variable("b", 0), main)},
		{"1 buffer b : main ;", defs(variable("b", 1), main)},
		{"16384 buffer b : main ;", defs(variable("b", 16384), main)},
		{": main ; variable v 7 constant c 9 buffer b", defs(main, variable("v", 2), constant("c", 7), variable("b", 9))},
		{"0 bank { } : main ;", withBanks(defs(main), api.Bank{Num: 0})},
		{": main ; 15 bank { 0 255 7 }", withBanks(defs(main), api.Bank{Num: 15, Data: []byte{0, 255, 7}})},
		{": main ; 15 bank { 1 } 3 bank { 2 } 9 bank { } 0 bank { 4 4 }", withBanks(defs(main), api.Bank{Num: 0, Data: []byte{4, 4}}, api.Bank{Num: 3, Data: []byte{2}}, api.Bank{Num: 9}, api.Bank{Num: 15, Data: []byte{1}})},
		{"1 bank { } : main bank ; 0 bank { 'a' $10 %1 }", withBanks(defs(word("main", prim("bank"))), api.Bank{Num: 0, Data: []byte{97, 16, 1}}, api.Bank{Num: 1})},
		// Names that are like other words, and yet names.
		{": Dup ; : dup2 ; : 2DUP ; : ) ; : (a) ; : \\x ; : IF ; : ;; ; : :: ; : main Dup dup2 2DUP ) (a) \\x IF ;; :: ;", defs(word("Dup"), word("dup2"), word("2DUP"), word(")"), word("(a)"), word("\\x"), word("IF"), word(";;"), word("::"),
			word("main", call("Dup"), call("dup2"), call("2DUP"), call(")"), call("(a)"), call("\\x"), call("IF"), call(";;"), call("::")))},
		{": lit ; : enter ; : const ; : branch ; : zbranch ; : main lit enter const branch zbranch ;", defs(word("lit"), word("enter"), word("const"), word("branch"), word("zbranch"), word("main", call("lit"), call("enter"), call("const"), call("branch"), call("zbranch")))},
		{": " + strings.Repeat("n", 31) + " ; : main ;", defs(word(strings.Repeat("n", 31)), main)},
	} {
		if got := taken(t, c.src); !alike(got, c.want) {
			t.Errorf("Parse(%q) = %+v, want %+v", c.src, got, c.want)
		}
	}
}

func TestOrderOfBanks(t *testing.T) { // 10.1: by their numbers rising, in whatever order they stand in the text
	random := rand.New(rand.NewSource(10))
	for range 50 {
		var src strings.Builder
		src.WriteString(": main ;")
		for _, num := range random.Perm(16) {
			fmt.Fprintf(&src, " %d bank { %d %d }", num, num, 2*num)
		}
		p := taken(t, src.String())
		if len(p.Banks) != 16 {
			t.Fatalf("%d banks", len(p.Banks))
		}
		for num, b := range p.Banks {
			if b.Num != num || !slices.Equal(b.Data, []byte{byte(num), byte(2 * num)}) {
				t.Fatalf("bank %d: %+v", num, b)
			}
		}
	}
}

func TestPlaces(t *testing.T) { // 10.1: a definition's is its name's, a node's its word's, a structure's its first word's
	wantParsed(t, ": a\n ;\n7\nconstant\n  c\nvariable\n v 9 buffer b\n:\n main\n if\n  1 else c then begin\nexit until\nbegin begin\nagain while v\nrepeat do\n do\ndup loop\nloop ;\n1 bank { }", api.Program{
		Defs: []api.Def{
			{Kind: 1, Name: "a", Pos: pos(1, 3)},
			{Kind: 2, Name: "c", Value: 7, Pos: pos(5, 3)},
			{Kind: 3, Name: "v", Value: 2, Pos: pos(7, 2)},
			{Kind: 3, Name: "b", Value: 9, Pos: pos(7, 13)},
			{Kind: 1, Name: "main", Pos: pos(9, 2), Body: nodes(
				at(10, 2, twoParts(nodeIf, true, nodes(at(11, 3, lit(1))), nodes(at(11, 10, call("c"))))),
				at(11, 17, structure(nodeUntil, at(12, 1, exit()))),
				at(13, 1, twoParts(nodeWhile, false, nodes(at(13, 7, structure(nodeAgain))), nodes(at(14, 13, call("v"))))),
				at(15, 8, structure(nodeDo, at(16, 2, structure(nodeDo, at(17, 1, prim("dup"))))))),
			},
		},
		Banks: []api.Bank{{Num: 1}},
	})
}

func TestWhereAnItemBegins(t *testing.T) { // 10.1: every word
	for _, ahead := range []string{"", ": a ; ", "1 constant a ", "variable a ", "1 buffer a ", "1 bank { 2 } "} {
		for _, w := range strings.Fields(ownWords + " " + primNames + " a main nobody x ) (a)") {
			if w == ":" || w == "variable" {
				wantErrorAt(t, ahead+w+"^", tooEarly)
				continue
			}
			wantErrorAt(t, ahead+"^"+w, badTop)
			wantErrorAt(t, ahead+"^"+w+" ; : main ;", badTop)
		}
		wantErrorAt(t, ahead+"7^", tooEarly)
	}
}

func TestBehindANumber(t *testing.T) { // 10.1: every word
	for _, number := range []string{"0", "7", "65535", "-1", "$10"} {
		for _, w := range strings.Fields(ownWords + " " + primNames + " a main nobody 7 70 -1 65535") {
			if w == "constant" || w == "buffer" || w == "bank" {
				continue
			}
			wantErrorAt(t, number+" ^"+w, badTop)
			wantErrorAt(t, ": a ; "+number+" ^"+w+" b : main ;", badTop)
		}
	}
}

func TestNames(t *testing.T) { // 10.1: behind : constant variable buffer every reserved word, every primitive's name, numbers
	for _, ahead := range []string{": ", "1 constant ", "variable ", "1 buffer ", ": a ; : ", "variable a 7 constant "} {
		for _, w := range strings.Fields(ownWords + " " + primNames + " 7 -1 $ff %1 'x' 0 65535") {
			wantErrorAt(t, ahead+"^"+w, badName)
			wantErrorAt(t, ahead+"^"+w+" ; : main ;", badName)
		}
	}
	wantErrorAt(t, ": main ; : ^bank", badName)
}

func TestTwice(t *testing.T) { // 10.1: each kind of definition with a name of each kind
	kinds := []string{": %s ; ", "1 constant %s ", "variable %s ", "1 buffer %s "}
	for _, one := range kinds {
		for _, other := range kinds {
			for _, between := range []string{"", ": b ; ", "variable c 3 bank { 1 } "} {
				wantErrorAt(t, fmt.Sprintf(one, "a")+between+fmt.Sprintf(other, "^a"), twice)
			}
		}
	}
	wantErrorAt(t, ": main ; : ^main ;", twice)
	wantErrorAt(t, "1 constant main : ^main ;", twice)
	wantErrorAt(t, ": a ; : b ; : c ; : ^b ;", twice)
	taken(t, ": a ; : A ; : aa ; : main ;")
	// A definition that has not ended has no name yet; but none begins inside it.
	wantErrorAt(t, ": a ^: a ;", badPair)
}

func TestGreatestNumbers(t *testing.T) { // 10.1: the least and the greatest that may be, and one beyond
	wantErrorAt(t, "^16385 buffer b : main ;", badValue)
	wantErrorAt(t, "^65535 buffer b : main ;", badValue)
	wantErrorAt(t, "^-1 buffer b : main ;", badValue)
	wantErrorAt(t, "^16385 buffer", badValue)
	wantErrorAt(t, "^16385 buffer 7", badValue)
	wantErrorAt(t, ": b ; ^16385 buffer b", badValue)
	wantErrorAt(t, "16384 buffer ^7", badName)
	wantErrorAt(t, "16385^", tooEarly)
	for num := range 16 {
		if p := taken(t, fmt.Sprintf("%d bank { } : main ;", num)); len(p.Banks) != 1 || p.Banks[0].Num != num {
			t.Errorf("bank %d: %+v", num, p.Banks)
		}
		wantErrorAt(t, fmt.Sprintf("%d bank { } ^%d bank { } : main ;", num, num), twice)
		wantErrorAt(t, fmt.Sprintf("%d bank { } : main ; ^%d bank", num, num), twice)
		wantErrorAt(t, fmt.Sprintf("%d bank { } ^%d bank x", num, num), twice)
	}
	for _, num := range []string{"16", "17", "255", "256", "271", "65535", "-1"} {
		wantErrorAt(t, "^"+num+" bank { } : main ;", badValue)
		wantErrorAt(t, "^"+num+" bank", badValue)
		wantErrorAt(t, "^"+num+" bank x", badValue)
	}
	taken(t, "0 bank { 0 255 } : main ;")
	for _, one := range []string{"256", "257", "511", "65535", "-1", "$100", "32768"} {
		wantErrorAt(t, "0 bank { ^"+one+" } : main ;", badValue)
		wantErrorAt(t, "0 bank { 255 0 ^"+one, badValue)
	}
	// A constant may be any cell.
	taken(t, "65535 constant a 16385 constant b 16 constant c : main 65535 ;")
}

func TestManyBytes(t *testing.T) { // 10.1: 16384 numbers of a bank and one more
	ahead := "1 bank { "
	p := taken(t, ahead+strings.Repeat("7 ", maxBank)+"} : main ;")
	if len(p.Banks[0].Data) != maxBank {
		t.Errorf("%d bytes", len(p.Banks[0].Data))
	}
	for _, last := range []string{"7", "255", "256", "x", "{", ";"} {
		wantErrorAt(t, ahead+strings.Repeat("7 ", maxBank)+"^"+last, badValue)
	}
	wantErrorAt(t, ahead+strings.Repeat("7 ", maxBank)+"^7 } : main ;", badValue)
	wantErrorAt(t, ahead+strings.Repeat("7 ", maxBank)+"^", tooEarly)
}

func TestBanksBytes(t *testing.T) { // 10.1: behind bank, and between the braces
	for _, w := range strings.Fields(ownWords + " " + primNames + " a 7") {
		if w != "{" {
			wantErrorAt(t, ": a ; 1 bank ^"+w, badPair)
			wantErrorAt(t, ": a ; 1 bank ^"+w+" { } : main ;", badPair)
		}
		if w != "}" && w != "7" {
			wantErrorAt(t, ": a ; 1 bank { ^"+w, badValue)
			wantErrorAt(t, ": a ; 1 bank { 7 8 ^"+w+" } : main ;", badValue)
		}
	}
	wantErrorAt(t, "1 bank { '}' 125 } ^}", badTop)
}

func TestEndsTooEarly(t *testing.T) { // 10.1: each beginning of each kind of item, with what may follow it that is no word
	for _, item := range []string{": a ;", ": a 1 dup ;", ": a if 1 else 2 then exit ;", ": a begin 1 while 2 repeat ;", ": a begin until begin again do loop ;", "7 constant a", "variable a", "9 buffer a", "3 bank { }", "3 bank { 1 2 3 }"} {
		words := strings.Fields(item)
		for _, ahead := range []string{"", ": main ;\n ", "1 bank { 9 } variable v "} {
			for many := 1; many < len(words); many++ {
				for _, behind := range []string{"", " ", "\n", "\n\n  \t", " ( a\n b)", " \\ rest", "\r\n"} {
					src := ahead + strings.Join(words[:many], " ") + behind
					end := endOf(src)
					wantError(t, src, end.Line, end.Col, tooEarly)
				}
			}
		}
	}
}

// endOf is the place behind a text.
func endOf(src string) api.Pos {
	return pos(1+strings.Count(src, "\n"), len(src)-strings.LastIndex(src, "\n"))
}

func TestNoMain(t *testing.T) { // 10.1: none of that name, or of another kind
	for _, src := range []string{"", " ", "\n\n", ": a ;", ": Main ;", ": mai ; : mainn ;", "1 constant main", "variable main", "4 buffer main", "1 bank { 1 }", "1 constant main : a main ;\n", "\\ : main ;", "( : main ; )\n "} {
		end := endOf(src)
		wantError(t, src, end.Line, end.Col, noMain)
	}
}

func TestKnown(t *testing.T) { // 10.1: from behind the item on that defines it
	wantErrorAt(t, ": a ^a ; : main ;", badWord)
	wantErrorAt(t, ": main ^a ; : a ;", badWord)
	wantErrorAt(t, ": main ^c ; 1 constant c", badWord)
	wantErrorAt(t, ": main ^v ; variable v", badWord)
	wantErrorAt(t, ": main if begin do ^b", badWord)
	wantErrorAt(t, ": a ; : main a ^b a ;", badWord)
	wantErrorAt(t, ": a ; : main ^A ;", badWord)
	wantErrorAt(t, ": main ^) ;", badWord)
	taken(t, ": a ; : b a ; : c a b ; 1 constant k variable v 9 buffer w : main a b c k v w ;")
}

// The structures as far as they are open, and which words may stand next and close or turn them.
var contexts = []struct {
	open, may string
}{
	{"", ";"},
	{"if", "else then"},
	{"if 1 else", "then"},
	{"begin", "until again while"},
	{"begin 1 while", "repeat"},
	{"do", "loop"},
}

var closing = strings.Fields("else then until again while repeat loop ;")

func TestPairs(t *testing.T) { // 10.1: each word that closes or turns, in each structure inside each other one
	for _, outer := range contexts {
		for _, inner := range contexts {
			for _, gap := range []string{" ", " dup ", " if else then begin while repeat do loop "} {
				may := inner.may
				if inner.open == "" {
					may = outer.may
				}
				src := ": main " + outer.open + gap + inner.open + gap
				for _, w := range closing {
					if !slices.Contains(strings.Fields(may), w) {
						wantErrorAt(t, src+"^"+w, badPair)
						wantErrorAt(t, src+"^"+w+" ;", badPair)
					} else if w != ";" {
						wantErrorAt(t, src+w+"^", tooEarly)
					}
				}
			}
		}
	}
	taken(t, ": main ;")
}

func TestWordsOfItemsInABody(t *testing.T) { // 10.1: in each structure
	for _, c := range contexts {
		for _, w := range strings.Fields(": constant variable buffer { }") {
			wantErrorAt(t, ": main "+c.open+" ^"+w, badPair)
			wantErrorAt(t, ": main "+c.open+" 7 ^"+w+" x ;", badPair)
		}
		for _, w := range strings.Fields(primNames + " 7 if begin do") {
			src := ": main " + c.open + " " + w
			wantErrorAt(t, src+"^", tooEarly)
		}
		for _, w := range strings.Fields("nobody main Dup lit enter ) (a)") {
			wantErrorAt(t, ": main "+c.open+" ^"+w, badWord)
		}
	}
}

func TestExit(t *testing.T) { // 10.1: nowhere inside a do that is still open, however deep; anywhere else
	for _, c := range []string{"if ^exit", "if 1 else ^exit", "begin ^exit", "begin while ^exit", "do ^exit", "^exit", "do loop ^exit", "if do loop begin while do loop ^exit"} {
		src := strings.ReplaceAll(c, "^", "")
		if c != "do ^exit" {
			wantErrorAt(t, ": main "+src+"^", tooEarly)
		}
		wantErrorAt(t, ": main do "+c, badLeave)
		wantErrorAt(t, ": main if begin while do "+c, badLeave)
		wantErrorAt(t, ": main do if else do begin "+c, badLeave)
		wantErrorAt(t, ": main do do loop "+c, badLeave)
		wantErrorAt(t, ": main do loop do "+c+" loop ;", badLeave)
		wantErrorAt(t, ": a do loop exit ; : main do "+c+" loop ;", badLeave)
	}
	wantErrorAt(t, ": main do ^exit", badLeave)
	wantBody(t, "exit do loop exit", exit(), structure(nodeDo), exit())
	wantBody(t, "if do loop exit else exit then begin exit while exit repeat", twoParts(nodeIf, true, nodes(structure(nodeDo), exit()), nodes(exit())), twoParts(nodeWhile, false, nodes(exit()), nodes(exit())))
	// A do of another word does not count: it has ended.
	taken(t, ": a do do loop loop ; : main exit ;")
}

func TestDeep(t *testing.T) { // 10.1: 32 in one another, and a 33rd, of each kind
	type kind struct{ open, close string }
	kinds := []kind{{"if", "then"}, {"if else", "then"}, {"begin", "until"}, {"begin", "again"}, {"begin while", "repeat"}, {"do", "loop"}}
	nest := func(k kind, many int) string {
		return strings.Repeat(k.open+" ", many) + strings.Repeat(k.close+" ", many)
	}
	for _, k := range kinds {
		p := taken(t, ": main "+nest(k, maxNest)+";")
		if e := tree.Check(p); e != fine {
			t.Errorf("%s: 32 of it: Check: %d", k.open, e)
		}
		// Those that were closed do not count.
		taken(t, ": main "+nest(k, maxNest)+nest(k, maxNest)+";")
		for _, last := range []string{"if", "begin", "do"} {
			wantErrorAt(t, ": main "+strings.Repeat(k.open+" ", maxNest)+"^"+last, tooDeep)
			wantErrorAt(t, ": main "+nest(k, maxNest)+strings.Repeat(k.open+" ", maxNest)+"1 dup ^"+last+" ;", tooDeep)
			wantErrorAt(t, ": main "+strings.Repeat(k.open+" ", maxNest-1)+last+"^", tooEarly)
		}
	}
	var mixed strings.Builder
	for i := range maxNest {
		mixed.WriteString(kinds[i%len(kinds)].open + " ")
	}
	wantErrorAt(t, ": main "+mixed.String()+"^do", tooDeep)
	wantErrorAt(t, ": main "+mixed.String()+"1^", tooEarly)
}
