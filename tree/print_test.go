package tree_test

import (
	"bytes"
	"fmt"
	"math/rand"
	"reflect"
	"slices"
	"strings"
	"testing"

	"wisp/api"
	"wisp/spare"
	"wisp/tree"
)

// wantPrint holds Print to a text.
func wantPrint(t *testing.T, p api.Program, want string) {
	t.Helper()
	got, e := tree.Print(p)
	if e != fine || got != want {
		t.Errorf("Print(%+v) = %s, %d, want %s", p, brief(got), e, brief(want))
	}
}

func TestPrintOfDefinitions(t *testing.T) { // 10.3: each kind, in their order
	wantPrint(t, defs(word("main")), ": main ;\n")
	wantPrint(t, defs(constant("c", 0), word("main"), constant("d", 65535)), "0 constant c\n: main ;\n65535 constant d\n")
	wantPrint(t, defs(constant("c", 2), variable("v", 2), variable("a", 0), variable("b", 1), variable("d", 3), variable("e", 16384), word("main")),
		"2 constant c\nvariable v\n0 buffer a\n1 buffer b\n3 buffer d\n16384 buffer e\n: main ;\n")
	wantPrint(t, defs(word("z"), word("b", call("z")), word("main", call("b"), call("z"))), ": z ;\n: b z ;\n: main b z ;\n")
}

func TestPrintOfNodes(t *testing.T) { // 10.3: each kind, empty and not
	for _, c := range []struct {
		want string
		n    api.Node
	}{
		{"0", lit(0)}, {"65535", lit(65535)}, {"32768", lit(32768)}, {"exit", exit()}, {"a", call("a")},
		{"if then", structure(nodeIf)}, {"if 1 2 then", structure(nodeIf, lit(1), lit(2))},
		{"if else then", twoParts(nodeIf, true, nil, nil)}, {"if 1 else 2 3 then", twoParts(nodeIf, true, nodes(lit(1)), nodes(lit(2), lit(3)))}, {"if else 2 then", twoParts(nodeIf, true, nil, nodes(lit(2)))},
		{"begin until", structure(nodeUntil)}, {"begin a until", structure(nodeUntil, call("a"))},
		{"begin again", structure(nodeAgain)}, {"begin exit again", structure(nodeAgain, exit())},
		{"begin while repeat", structure(nodeWhile)}, {"begin 1 while 2 3 repeat", twoParts(nodeWhile, false, nodes(lit(1)), nodes(lit(2), lit(3)))},
		{"do loop", structure(nodeDo)}, {"do i drop loop", structure(nodeDo, prim("i"), prim("drop"))},
		{"begin if do loop else begin until then while begin again repeat", twoParts(nodeWhile, false, nodes(twoParts(nodeIf, true, nodes(structure(nodeDo)), nodes(structure(nodeUntil)))), nodes(structure(nodeAgain)))},
	} {
		wantPrint(t, defs(word("a"), word("main", c.n)), ": a ;\n: main "+c.want+" ;\n")
		wantPrint(t, defs(word("a"), word("main", lit(7), c.n, c.n)), ": a ;\n: main 7 "+c.want+" "+c.want+" ;\n")
	}
	for i, name := range strings.Fields(primNames) {
		wantPrint(t, main(api.Node{Kind: 1, Op: 9 + i}), ": main "+name+" ;\n")
	}
}

func TestPrintOfBanks(t *testing.T) { // 10.3: behind all definitions, by their numbers
	wantPrint(t, withBanks(main(), api.Bank{Num: 0}, api.Bank{Num: 9, Data: []byte{0, 255, 17}}, api.Bank{Num: 15, Data: []byte{1}}), ": main ;\n0 bank { }\n9 bank { 0 255 17 }\n15 bank { 1 }\n")
	src := "3 bank { 1 } : a ; 2 bank { 2 } : main ;"
	wantPrint(t, taken(t, src), ": a ;\n: main ;\n2 bank { 2 }\n3 bank { 1 }\n")
}

func TestPrintOfOtherNumerals(t *testing.T) { // 10.3: numbers are told in one form
	wantPrint(t, taken(t, "$0002 buffer v -1 constant c : main %101 'a' 007 -0 ; $f bank { 'b' $0c }"), "variable v\n65535 constant c\n: main 5 97 7 0 ;\n15 bank { 98 12 }\n")
}

// longer is a program whose text has so many bytes.
func longer(many int) api.Program {
	body := make([]api.Node, (many-9)/2)
	for i := range body {
		body[i] = lit(1)
	}
	if many%2 == 0 {
		body[len(body)/2] = lit(10)
	}
	return main(body...)
}

func TestLongTexts(t *testing.T) { // 10.3, 10.5: of 65536 bytes, and one more
	for many := maxSource - 5; many < maxSource+5; many++ {
		p := longer(many)
		s, e := tree.Print(p)
		if many <= maxSource && (e != fine || len(s) != many || s[:9] != ": main 1 " || s[many-5:] != " 1 ;\n") {
			t.Errorf("%d bytes: %d, %s", many, e, brief(s))
		}
		if many > maxSource && (e != tooLong || s != "") {
			t.Errorf("%d bytes: %d, %s", many, e, brief(s))
		}
		wantThereAndBack(t, p)
	}
	// The last byte of all may be a bank's, or that of a definition that comes behind.
	p := longer(maxSource - 11)
	wantCheck(t, "a bank behind", withBanks(p, api.Bank{Num: 1}), fine)
	if s, e := tree.Print(withBanks(p, api.Bank{Num: 1})); e != fine || len(s) != maxSource || !strings.HasSuffix(s, "1 ;\n1 bank { }\n") {
		t.Errorf("a bank at the end: %d bytes, %d", len(s), e)
	}
	if s, e := tree.Print(withBanks(p, api.Bank{Num: 10})); e != tooLong || s != "" {
		t.Errorf("a bank too many: %d bytes, %d", len(s), e)
	}
	p = longer(maxSource - 11)
	p.Defs = append(p.Defs, variable("v", 2))
	if s, e := tree.Print(p); e != fine || len(s) != maxSource {
		t.Errorf("a variable at the end: %d bytes, %d", len(s), e)
	}
	p.Defs[1].Name = "vv"
	if s, e := tree.Print(p); e != tooLong || s != "" {
		t.Errorf("a variable too many: %d bytes, %d", len(s), e)
	}
	p.Defs[1].Name = "if"
	if s, e := tree.Print(p); e != badName || s != "" {
		t.Errorf("Check's error comes first: %d bytes, %d", len(s), e)
	}
	for _, p := range []api.Program{longer(3 * maxSource), withBanks(main(), fullBanks()...)} {
		if s, e := tree.Print(p); e != tooLong || s != "" {
			t.Errorf("far too long: %d bytes, %d", len(s), e)
		}
		wantCheck(t, "however long", p, fine)
	}
	// A source of the greatest length: its own text may be longer than it.
	long := ": main " + strings.Repeat("-1 ", (maxSource-8)/3) + ";"
	if _, e := tree.Print(taken(t, long)); e != tooLong {
		t.Errorf("numbers that are written longer: %d", e)
	}
}

func fullBanks() []api.Bank {
	banks := allBanks()
	for i := range banks {
		banks[i].Data = bytes.Repeat([]byte{7}, maxBank)
	}
	return banks
}

// rich is a program with all that one can have.
func rich() api.Program {
	return withBanks(defs(
		constant("c", 7), variable("v", 2), variable("b", 40), word("empty"),
		word("a", lit(1), prim("dup"), call("c"), exit()),
		word("main", twoParts(nodeIf, true, nodes(lit(1), call("a")), nodes(call("v"))), structure(nodeIf, prim("drop")), structure(nodeUntil, exit(), lit(3)), twoParts(nodeWhile, false, nodes(call("b"), lit(5)), nodes(prim("+"), lit(9))), structure(nodeAgain, structure(nodeDo, prim("i"), structure(nodeDo, prim("j"))))),
	), api.Bank{Num: 2, Data: []byte{1, 2, 3}}, api.Bank{Num: 9, Data: []byte{4}}, api.Bank{Num: 11})
}

func TestSame(t *testing.T) { // 10.4: of programs that differ in one field alone
	p := rich()
	wantCheck(t, "rich", p, fine)
	wantSame := func(what string, q api.Program, want bool) {
		t.Helper()
		if tree.Same(p, q) != want || tree.Same(q, p) != want {
			t.Errorf("%s: Same is not %v", what, want)
		}
	}
	wantSame("itself", rich(), true)
	for i := range p.Defs {
		for what, change := range map[string]func(d *api.Def){
			"Kind": func(d *api.Def) { d.Kind = 7 }, "Name": func(d *api.Def) { d.Name += "x" }, "Value": func(d *api.Def) { d.Value++ }, "Body": func(d *api.Def) { d.Body = append(plainNodes(d.Body), api.Node{}) },
		} {
			q := rich()
			change(&q.Defs[i])
			wantSame(fmt.Sprint("definition ", i, what), q, false)
		}
		q := rich()
		q.Defs[i].Pos = pos(3, 4)
		wantSame("a definition's place", q, true)
		q.Defs = slices.Delete(q.Defs, i, i+1)
		wantSame("a definition less", q, false)
	}
	for i := range allNodes(p) {
		for what, change := range map[string]func(n *api.Node){
			"Kind": func(n *api.Node) { n.Kind = 77 }, "Op": func(n *api.Node) { n.Op++ }, "Value": func(n *api.Node) { n.Value += 256 }, "Name": func(n *api.Node) { n.Name += "x" }, "Has": func(n *api.Node) { n.Has = !n.Has },
			"Then": func(n *api.Node) { n.Then = append(plainNodes(n.Then), lit(1)) }, "Else": func(n *api.Node) { n.Else = append(plainNodes(n.Else), lit(1)) },
		} {
			q := rich()
			change(allNodes(q)[i])
			wantSame(fmt.Sprint("node ", i, what), q, false)
		}
		q := rich()
		allNodes(q)[i].Pos = pos(3, 4)
		wantSame("a node's place", q, true)
	}
	for i := range p.Banks {
		q := rich()
		q.Banks[i].Num++
		wantSame("a bank's number", q, false)
		q = rich()
		q.Banks[i].Data = append(bytes.Clone(q.Banks[i].Data), 0)
		wantSame("a byte more", q, false)
		q = rich()
		q.Banks = slices.Delete(q.Banks, i, i+1)
		wantSame("a bank less", q, false)
	}
	for i := range 3 {
		q := rich()
		q.Banks[0].Data[i] ^= 128
		wantSame("a byte of a bank", q, false)
	}
	q := rich()
	q.Defs[0], q.Defs[1] = q.Defs[1], q.Defs[0]
	wantSame("another order", q, false)
}

func TestSameOfAny(t *testing.T) { // 10.4, R4: those that may not be too; a list without elements is one with nil
	for _, a := range []api.Program{{}, {Defs: []api.Def{}}, {Banks: []api.Bank{}}} {
		for _, b := range []api.Program{{}, {Defs: []api.Def{}}, {Banks: []api.Bank{}}} {
			if !tree.Same(a, b) {
				t.Error("programs of nothing")
			}
		}
	}
	odd := func() api.Program {
		return withBanks(defs(api.Def{Kind: -1, Name: "\x00", Value: 9, Body: nodes(api.Node{Kind: 99, Op: -5, Name: "?", Then: nodes(api.Node{}), Else: nodes(api.Node{})})}), api.Bank{Num: -4, Data: make([]byte, 20000)}, api.Bank{Num: -4})
	}
	a, b := odd(), odd()
	b.Defs[0].Pos, b.Defs[0].Body[0].Pos, b.Defs[0].Body[0].Else[0].Pos = pos(1, 1), pos(1, 2), pos(1, 3)
	b.Banks[1].Data, b.Defs[0].Body[0].Then[0].Then = []byte{}, []api.Node{}
	if !tree.Same(a, b) {
		t.Error("two odd ones")
	}
	b.Defs[0].Body[0].Else[0].Has = true
	if tree.Same(a, b) {
		t.Error("two odd ones that differ")
	}
	if tree.Same(defs(api.Def{}), api.Program{}) || tree.Same(withBanks(api.Program{}, api.Bank{}), api.Program{}) {
		t.Error("an empty definition, an empty bank are something")
	}
}

func TestSameIsAlike(t *testing.T) { // 10.4: of any two
	m := &maker{Rand: rand.New(rand.NewSource(104))}
	met := map[bool]int{}
	for range 4000 {
		p := taken(t, m.source(1+m.Intn(4)))
		q := plainly(p)
		if m.Intn(2) == 0 {
			slip(m, &q)
		}
		same := tree.Same(p, q)
		met[same]++
		if same != alike(p, q) {
			t.Fatalf("Same(%+v, %+v) = %v", p, q, same)
		}
	}
	if met[true] == 0 || met[false] == 0 {
		t.Errorf("met: %v", met)
	}
}

func TestWhatIsHandedInStays(t *testing.T) { // R3: spare room too
	p, want := spare.Program(rich()), spare.Program(rich())
	if e := tree.Check(p); e != fine {
		t.Fatal(e)
	}
	if _, e := tree.Print(p); e != fine || !tree.Same(p, want) || !reflect.DeepEqual(spare.Whole(p), spare.Whole(want)) {
		t.Error("what was handed in has changed")
	}
}

func TestListsOfAnAnswerAreApart(t *testing.T) { // R3: each list of an answer written over, spare room too: no other one has changed, nor another answer
	src, e := tree.Print(rich())
	if e != fine {
		t.Fatal(e)
	}
	other, want := taken(t, src), taken(t, src)
	many := len(lists(want))
	for i := range many {
		p := taken(t, src)
		over := lists(p)
		over[i].writeOver()
		for j, l := range over {
			if j != i && !reflect.DeepEqual(l.elements(), lists(want)[j].elements()) {
				t.Fatalf("list %d written over: list %d has changed", i, j)
			}
		}
	}
	if !equal(other, want) {
		t.Error("another answer has changed")
	}
}

// list is one list of a program: how it is written over, and what it has.
type list struct {
	writeOver func()
	elements  func() any
}

// lists tells all lists of a program. Their elements are told without the lists in them, which have their own rows.
func lists(p api.Program) []list {
	var all []list
	bare := func(l []api.Node) any {
		var out []api.Node
		for _, n := range l {
			n.Then, n.Else = nil, nil
			out = append(out, n)
		}
		return out
	}
	var look func(l []api.Node)
	look = func(l []api.Node) {
		all = append(all, list{writeOver: func() { spare.Over(l, api.Node{Kind: 55, Name: "over"}) }, elements: func() any { return bare(l) }})
		for _, n := range l {
			look(n.Then)
			look(n.Else)
		}
	}
	all = append(all, list{writeOver: func() { spare.Over(p.Defs, api.Def{Kind: 55}) }, elements: func() any {
		var out []api.Def
		for _, d := range p.Defs {
			d.Body = nil
			out = append(out, d)
		}
		return out
	}})
	for _, d := range p.Defs {
		look(d.Body)
	}
	all = append(all, list{writeOver: func() { spare.Over(p.Banks, api.Bank{Num: 55}) }, elements: func() any {
		var out []int
		for _, b := range p.Banks {
			out = append(out, b.Num)
		}
		return out
	}})
	for _, b := range p.Banks {
		all = append(all, list{writeOver: func() { spare.Over(b.Data, 55) }, elements: func() any { return append([]byte(nil), b.Data...) }})
	}
	return all
}
