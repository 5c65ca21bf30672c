package tree_test

import (
	"fmt"
	"math/rand"
	"slices"
	"strings"
	"testing"

	"wisp/api"
	"wisp/tree"
)

// wantCheck holds Check, and with an error Print too, to an answer.
func wantCheck(t *testing.T, what string, p api.Program, want api.Errno) {
	t.Helper()
	if got := tree.Check(p); got != want {
		t.Errorf("%s: Check = %d, want %d", what, got, want)
	}
	s, e := tree.Print(p)
	if want != fine && (s != "" || e != want) {
		t.Errorf("%s: Print = %s, %d, want %d", what, brief(s), e, want)
	}
	if want == fine && e != fine && e != tooLong {
		t.Errorf("%s: Print = %d", what, e)
	}
}

func main(body ...api.Node) api.Program { return defs(word("main", body...)) }

func TestCheckOfGood(t *testing.T) { // 10.2: the edges of what may be
	for what, p := range map[string]api.Program{
		"main alone":           main(),
		"an empty list":        {Defs: []api.Def{{Kind: 1, Name: "main", Body: []api.Node{}}}, Banks: []api.Bank{}},
		"of zeros":             defs(constant("c", 0), variable("v", 0), word("main")),
		"of the greatest":      defs(constant("c", 65535), variable("v", 16384), word("main", lit(65535))),
		"main ahead":           defs(word("main"), word("a", call("main"))),
		"a name of 31 bytes":   defs(word(strings.Repeat("!", 31)), word("main", call(strings.Repeat("!", 31)))),
		"names like words":     defs(word("IF"), word("lit"), constant(")", 1), variable("(a", 2), word("main", call(")"))),
		"Else of an if":        main(twoParts(nodeIf, true, nil, nodes(lit(1)))),
		"an else with nothing": main(api.Node{Kind: 4, Has: true, Then: []api.Node{}, Else: []api.Node{}}),
		"Else of a while":      main(twoParts(nodeWhile, false, nil, nodes(exit()))),
		"exit behind a do":     main(structure(nodeDo, prim("i")), exit()),
		"exit in a loop":       main(structure(nodeUntil, exit())),
		"a place of nowhere":   defs(api.Def{Kind: 1, Name: "main", Pos: pos(-7, 0), Body: []api.Node{{Kind: 9, Pos: pos(1<<60, -1)}}}),
		"all banks":            withBanks(main(), allBanks()...),
		"a bank's last byte":   withBanks(main(), api.Bank{Num: 0, Data: make([]byte, 16384)}, api.Bank{Num: 15}),
	} {
		wantCheck(t, what, p, fine)
	}
	wantCheck(t, "nothing at all", api.Program{}, noMain)
	wantCheck(t, "main of another kind", defs(constant("main", 1)), noMain)
	wantCheck(t, "main of a third kind", defs(variable("main", 2)), noMain)
	wantCheck(t, "banks alone", api.Program{Banks: []api.Bank{{Num: 1}}}, noMain)
}

func allBanks() []api.Bank {
	var banks []api.Bank
	for num := range 16 {
		banks = append(banks, api.Bank{Num: num, Data: []byte{byte(num)}})
	}
	return banks
}

func TestCheckOfDefinitions(t *testing.T) { // 10.2, fault by fault
	for _, kind := range []int{-1, 0, 4, 5, 1 << 40} {
		wantCheck(t, fmt.Sprint("kind ", kind), defs(api.Def{Kind: kind, Name: "a"}, word("main")), badTop)
	}
	for _, x := range []uint16{1, 2, 65535} {
		wantCheck(t, "a word's value", defs(api.Def{Kind: 1, Name: "main", Value: x}), badTop)
	}
	for _, kind := range []int{2, 3} {
		for _, body := range [][]api.Node{{exit()}, {{}}, {lit(1), lit(2)}} {
			wantCheck(t, "a body", defs(api.Def{Kind: kind, Name: "a", Body: body}, word("main")), badTop)
		}
		wantCheck(t, "an empty body", defs(api.Def{Kind: kind, Name: "a", Body: []api.Node{}}, word("main")), fine)
	}
	names := strings.Fields(ownWords + " " + primNames + " 7 -1 70000 $ff $123456 %1 'x' ( \\ é \x7f")
	names = append(names, "", " ", "a b", "a\n", strings.Repeat("a", 32), "\x00", strings.Repeat("9", 40))
	for _, name := range names {
		for _, d := range []api.Def{word(name), constant(name, 1), variable(name, 2)} {
			wantCheck(t, fmt.Sprintf("the name %q", name), defs(d, word("main")), badName)
			wantCheck(t, fmt.Sprintf("the name %q behind others", name), defs(word("main"), constant("c", 7), d), badName)
		}
	}
	for _, one := range []api.Def{word("a"), constant("a", 1), variable("a", 2)} {
		for _, other := range []api.Def{word("a"), constant("a", 1), variable("a", 2)} {
			wantCheck(t, "twice", defs(one, other, word("main")), twice)
			wantCheck(t, "twice, with one between", defs(word("main"), one, word("b"), other), twice)
		}
	}
	wantCheck(t, "main twice", defs(word("main"), constant("main", 1)), twice)
	for _, x := range []uint16{16385, 16386, 32768, 65535} {
		wantCheck(t, "a variable too great", defs(variable("v", x), word("main")), badValue)
		wantCheck(t, "a constant that is not", defs(constant("v", x), word("main")), fine)
	}
}

// Each field of a node, set to what is not zero.
var fields = []struct {
	name string
	set  func(n *api.Node)
}{
	{"Op", func(n *api.Node) { n.Op = 12 }},
	{"Op below 0", func(n *api.Node) { n.Op = -1 }},
	{"Value", func(n *api.Node) { n.Value = 1 }},
	{"Name", func(n *api.Node) { n.Name = "a" }},
	{"Then", func(n *api.Node) { n.Then = []api.Node{lit(1)} }},
	{"Else", func(n *api.Node) { n.Else = []api.Node{lit(1)} }},
	{"Has", func(n *api.Node) { n.Has = true }},
}

// uses are the fields that a node of each kind uses, by 10.2; those of an if that has an else stand in row 10.
var uses = map[int]string{nodePrim: "Op", nodeLit: "Value", nodeCall: "Name", nodeIf: "Then Has", nodeUntil: "Then", nodeWhile: "Then Else", nodeAgain: "Then", nodeDo: "Then", nodeExit: "", 10: "Then Else Has"}

func goodNodes() map[int]api.Node {
	good := map[int]api.Node{nodePrim: prim("dup"), nodeLit: lit(7), nodeCall: call("a"), nodeExit: exit(), 10: twoParts(nodeIf, true, nil, nil)}
	for _, kind := range []int{nodeIf, nodeUntil, nodeWhile, nodeAgain, nodeDo} {
		good[kind] = structure(kind)
	}
	return good
}

func TestFieldsOfNodes(t *testing.T) { // 10.2: each field of each kind of node that its kind does not use
	for row, good := range goodNodes() {
		where := func(n api.Node) api.Program { return defs(word("a"), word("main", n)) }
		wantCheck(t, fmt.Sprintf("%+v", good), where(good), fine)
		for _, f := range fields {
			n := good
			f.set(&n)
			name := strings.Fields(f.name)[0]
			used := slices.Contains(strings.Fields(uses[row]), name)
			switch {
			case !used:
				wantCheck(t, fmt.Sprintf("kind %d with %s", row, f.name), where(n), badTop)
				wantCheck(t, fmt.Sprintf("kind %d with %s, inside others", row, f.name), where(structure(nodeAgain, lit(1), twoParts(nodeIf, true, nil, nodes(n)))), badTop)
			case n.Op >= 0:
				wantCheck(t, fmt.Sprintf("kind %d with %s", row, f.name), where(n), fine)
			}
		}
		n := good
		n.Then, n.Else = []api.Node{}, []api.Node{}
		wantCheck(t, fmt.Sprintf("kind %d with empty lists", row), where(n), fine)
	}
	for _, kind := range []int{-1, 0, 10, 11, 1 << 40} {
		wantCheck(t, fmt.Sprint("kind ", kind), main(api.Node{Kind: kind}), badTop)
		wantCheck(t, fmt.Sprint("kind ", kind), main(structure(nodeDo, api.Node{Kind: kind})), badTop)
	}
}

func TestWordsOfNodes(t *testing.T) { // 10.2
	for op := -3; op <= 70; op++ {
		want := badWord
		if op >= 9 && op <= 63 {
			want = fine
		}
		wantCheck(t, fmt.Sprint("primitive ", op), main(api.Node{Kind: 1, Op: op}), want)
	}
	for _, op := range []int{-1 << 63, 1<<63 - 1, 1<<32 + 12, 64 + 12} {
		wantCheck(t, fmt.Sprint("primitive ", op), main(api.Node{Kind: 1, Op: op}), badWord)
	}
	for _, name := range []string{"", "main", "b", "dup", "if", "A", "7"} {
		wantCheck(t, fmt.Sprintf("a call of %q", name), defs(word("a"), word("main", call("a"), call(name)), word("b")), badWord)
		wantCheck(t, fmt.Sprintf("a call of %q inside", name), defs(word("a"), word("main", structure(nodeDo, call(name))), word("b")), badWord)
	}
	wantCheck(t, "calls of each kind", defs(word("a"), constant("c", 1), variable("v", 2), word("main", call("a"), call("c"), call("v"))), fine)
}

func TestExitsOfNodes(t *testing.T) { // 10.2: inside a do, however deep, in Then and in Else
	for _, n := range []api.Node{exit(), structure(nodeIf, exit()), twoParts(nodeIf, true, nil, nodes(exit())), structure(nodeUntil, exit()), twoParts(nodeWhile, false, nil, nodes(exit())), twoParts(nodeWhile, false, nodes(exit()), nil), structure(nodeAgain, structure(nodeIf, exit())), structure(nodeAgain, structure(nodeDo), exit())} {
		wantCheck(t, fmt.Sprintf("%+v", n), main(n), fine)
		wantCheck(t, fmt.Sprintf("%+v behind a do", n), main(structure(nodeDo), n), fine)
		wantCheck(t, fmt.Sprintf("%+v in a do", n), main(structure(nodeDo, n)), badLeave)
		wantCheck(t, fmt.Sprintf("%+v in an if in a do", n), main(structure(nodeIf, structure(nodeDo, structure(nodeIf, n)))), badLeave)
		wantCheck(t, fmt.Sprintf("%+v behind a do in a do", n), main(structure(nodeDo, structure(nodeDo), n)), badLeave)
	}
}

func TestDepthOfNodes(t *testing.T) { // 10.2: a structure inside 32 others, of each kind
	around := func(kind int, inElse bool, n api.Node) api.Node {
		if inElse {
			return twoParts(kind, kind == nodeIf, nil, nodes(n))
		}
		return structure(kind, n)
	}
	for _, kind := range []int{nodeIf, nodeUntil, nodeWhile, nodeAgain, nodeDo} {
		for _, inElse := range []bool{false, true} {
			if inElse && kind != nodeIf && kind != nodeWhile {
				continue
			}
			for _, last := range []int{nodeIf, nodeUntil, nodeWhile, nodeAgain, nodeDo} {
				deep := structure(last)
				for range 31 {
					deep = around(kind, inElse, deep)
				}
				wantCheck(t, fmt.Sprintf("32 of kind %d", kind), main(deep, deep), fine)
				wantCheck(t, fmt.Sprintf("33 of kind %d, the last %d", kind, last), main(lit(1), around(kind, inElse, deep)), tooDeep)
			}
			for _, leaf := range []api.Node{lit(1), prim("dup"), exit()} {
				if leaf.Kind == nodeExit && kind == nodeDo {
					continue
				}
				what := fmt.Sprintf("kind %d in 32 of kind %d", leaf.Kind, kind)
				for range 32 {
					leaf = around(kind, inElse, leaf)
				}
				wantCheck(t, what, main(leaf), fine)
			}
		}
	}
	// Far deeper ones are told at the 33rd, and end.
	deep := structure(nodeIf)
	for range 60000 {
		deep = structure(nodeIf, deep)
	}
	wantCheck(t, "60001 in one another", main(deep), tooDeep)
	if !tree.Same(main(deep), main(deep)) || tree.Same(main(deep), main(deep.Then...)) {
		t.Error("Same of 60001 in one another")
	}
}

func TestCheckOfBanks(t *testing.T) { // 10.2
	for _, num := range []int{-1, -1 << 63, 16, 17, 256, 1 << 40} {
		wantCheck(t, fmt.Sprint("bank ", num), withBanks(main(), api.Bank{Num: num}), badValue)
		wantCheck(t, fmt.Sprint("bank 3, bank ", num), withBanks(main(), api.Bank{Num: 3}, api.Bank{Num: num}), badValue)
	}
	for _, many := range []int{16385, 16386, 70000} {
		wantCheck(t, fmt.Sprint("bytes: ", many), withBanks(main(), api.Bank{Num: 3, Data: make([]byte, many)}), badValue)
		wantCheck(t, fmt.Sprint("bytes, twice: ", many), withBanks(main(), api.Bank{Num: 3}, api.Bank{Num: 3, Data: make([]byte, many)}), badValue)
	}
	for one := range 16 {
		for other := range 16 {
			want := fine
			if other <= one {
				want = twice
			}
			wantCheck(t, fmt.Sprint("banks ", one, other), withBanks(main(), api.Bank{Num: one}, api.Bank{Num: other}), want)
		}
	}
	wantCheck(t, "1 3 2", withBanks(main(), api.Bank{Num: 1}, api.Bank{Num: 3}, api.Bank{Num: 2}), twice)
	wantCheck(t, "1 3 1", withBanks(main(), api.Bank{Num: 1}, api.Bank{Num: 3}, api.Bank{Num: 1}), twice)
}

func TestOrderOfFaults(t *testing.T) { // 10.2: where two are there, in one definition, in two, in its nodes, in the banks
	deep := structure(nodeIf)
	for range 32 {
		deep = structure(nodeAgain, deep)
	}
	badNodes := []struct {
		n api.Node
		e api.Errno
	}{{api.Node{}, badTop}, {api.Node{Kind: 1, Op: 5}, badWord}, {structure(nodeDo, exit()), badLeave}, {deep, tooDeep}, {call("nobody"), badWord}, {api.Node{Kind: 9, Value: 1}, badTop}}
	for _, one := range badNodes {
		for _, other := range badNodes {
			what := fmt.Sprint("nodes with ", one.e, other.e)
			wantCheck(t, what, main(lit(1), one.n, other.n), one.e)
			wantCheck(t, what+" in Then and Else", main(twoParts(nodeIf, true, nodes(one.n), nodes(other.n))), one.e)
			wantCheck(t, what+" in Else and behind", main(twoParts(nodeWhile, false, nil, nodes(one.n)), other.n), one.e)
			wantCheck(t, what+" in two definitions", defs(word("a", one.n), word("main", other.n)), one.e)
			wantCheck(t, what+" in a structure and behind", main(structure(nodeUntil, structure(nodeIf, one.n)), other.n), one.e)
		}
		wantCheck(t, "a node, then a definition", defs(word("a", one.n), api.Def{}), one.e)
		wantCheck(t, "a definition, then a node", defs(word("main"), word("main"), word("a", one.n)), twice)
		wantCheck(t, "a node, then a bank", withBanks(main(one.n), api.Bank{Num: 99}), one.e)
		wantCheck(t, "a name, then a node", defs(word("dup", one.n)), badName)
		wantCheck(t, "a value, then a node", defs(api.Def{Kind: 1, Name: "a", Value: 1, Body: nodes(one.n)}), badTop)
		wantCheck(t, "twice, then a node", defs(word("a"), word("a", one.n)), twice)
		wantCheck(t, "a node, and no main", defs(word("a", one.n)), one.e)
		n := one.n
		n.Has = true
		if n.Kind != nodeIf {
			wantCheck(t, "a field, then the node", main(n), badTop)
		}
	}
	// In one node: fields ahead of words, of exits and of depths; a structure's own fault ahead of what is in it.
	wantCheck(t, "a call with a value", main(api.Node{Kind: 3, Value: 1}), badTop)
	wantCheck(t, "a do with a value around exit", main(api.Node{Kind: 8, Value: 1, Then: nodes(exit())}), badTop)
	wantCheck(t, "exit with a name in a do", main(structure(nodeDo, api.Node{Kind: 9, Name: "x"})), badTop)
	last := api.Node{Kind: 4, Then: nodes(api.Node{Kind: 1, Op: 5})}
	for range 32 {
		last = structure(nodeDo, last)
	}
	wantCheck(t, "too deep, with a word inside", main(last), tooDeep)
	last = api.Node{Kind: 4, Op: 1}
	for range 32 {
		last = structure(nodeDo, last)
	}
	wantCheck(t, "too deep, with a field", main(last), badTop)
	// In one definition.
	wantCheck(t, "kind and name", defs(api.Def{Kind: 7, Name: "dup"}), badTop)
	wantCheck(t, "body and twice", defs(word("a"), api.Def{Kind: 2, Name: "a", Body: nodes(lit(1))}), badTop)
	wantCheck(t, "body and value", defs(api.Def{Kind: 3, Name: "a", Value: 20000, Body: nodes(lit(1))}), badTop)
	wantCheck(t, "name and value", defs(variable("dup", 20000)), badName)
	wantCheck(t, "twice and value", defs(word("a"), variable("a", 20000)), twice)
	// In two definitions the first is told, whatever it is.
	bad := []struct {
		d api.Def
		e api.Errno
	}{{api.Def{Name: "x"}, badTop}, {word("if"), badName}, {word("a"), twice}, {variable("v", 20000), badValue}, {word("y", exit(), api.Node{}), badTop}}
	for _, one := range bad {
		for _, other := range bad {
			wantCheck(t, fmt.Sprint("definitions with ", one.e, other.e), withBanks(defs(word("a"), one.d, other.d), api.Bank{Num: -1}), one.e)
		}
	}
	// Banks, and main last of all.
	wantCheck(t, "a bank, and no main", api.Program{Banks: []api.Bank{{Num: 16}}}, badValue)
	wantCheck(t, "banks twice, and no main", api.Program{Banks: []api.Bank{{Num: 1}, {Num: 1}}}, twice)
	wantCheck(t, "twice, then a number", withBanks(main(), api.Bank{Num: 2}, api.Bank{Num: 1}, api.Bank{Num: 16}), twice)
	wantCheck(t, "a number, then twice", withBanks(main(), api.Bank{Num: 16}, api.Bank{Num: 1}, api.Bank{Num: 1}), badValue)
}

// judged says 10.2 once more: by the text that the program would have.
func judged(p api.Program) bool {
	for _, d := range p.Defs {
		if !usedWell(d) {
			return false
		}
	}
	for i, b := range p.Banks {
		if b.Num < 0 || i > 0 && b.Num < p.Banks[i-1].Num {
			return false
		}
	}
	src := written(p)
	q, _, e := modelled(src)
	return e == fine && alike(p, q)
}

// usedWell tells whether a definition has only what a text can say.
func usedWell(d api.Def) bool {
	var look func(list []api.Node) bool
	look = func(list []api.Node) bool {
		for _, n := range list {
			if n.Kind < 1 || n.Kind > 9 || n.Kind == nodePrim && (n.Op < 9 || n.Op > 63) || n.Kind == nodeCall && (isOwn(n.Name) || isPrim(n.Name) || n.Name == "" || strings.Trim(n.Name, "0123456789") == "") {
				return false
			}
			if !look(n.Then) || !look(n.Else) {
				return false
			}
		}
		return true
	}
	return d.Kind >= 1 && d.Kind <= 3 && look(d.Body)
}

// written is a program's text by the tests' own hand, one word a line.
func written(p api.Program) string {
	var words []string
	var put func(list []api.Node)
	put = func(list []api.Node) {
		for _, n := range list {
			words = append(words, firstWord(n))
			put(n.Then)
			switch n.Kind {
			case nodeIf:
				if n.Has {
					words = append(words, "else")
					put(n.Else)
				}
				words = append(words, "then")
			case nodeWhile:
				words = append(words, "while")
				put(n.Else)
				words = append(words, "repeat")
			case nodeUntil:
				words = append(words, "until")
			case nodeAgain:
				words = append(words, "again")
			case nodeDo:
				words = append(words, "loop")
			}
		}
	}
	for _, d := range p.Defs {
		switch d.Kind {
		case defWord:
			words = append(words, ":", d.Name)
			put(d.Body)
			words = append(words, ";")
		case defConstant:
			words = append(words, fmt.Sprint(d.Value), "constant", d.Name)
		default:
			words = append(words, fmt.Sprint(d.Value), "buffer", d.Name)
		}
	}
	for _, b := range p.Banks {
		words = append(words, fmt.Sprint(b.Num), "bank", "{")
		for _, x := range b.Data {
			words = append(words, fmt.Sprint(x))
		}
		words = append(words, "}")
	}
	return strings.Join(words, "\n")
}

// allNodes tells the nodes of a program, so that one of them can be changed.
func allNodes(p api.Program) []*api.Node {
	var all []*api.Node
	var look func(list []api.Node)
	look = func(list []api.Node) {
		for i := range list {
			all = append(all, &list[i])
			look(list[i].Then)
			look(list[i].Else)
		}
	}
	for _, d := range p.Defs {
		look(d.Body)
	}
	return all
}

func TestCheckIsParse(t *testing.T) { // 10.2: Check takes just what Parse would answer of some text
	m := &maker{Rand: rand.New(rand.NewSource(102))}
	met := map[api.Errno]int{}
	for range 5000 {
		p := plainly(taken(t, m.source(1+m.Intn(6))))
		for range 1 + m.Intn(2) {
			slip(m, &p)
		}
		e := tree.Check(p)
		met[e]++
		if (e == fine) != judged(p) {
			t.Fatalf("Check(%+v) = %d", p, e)
		}
		if e == fine {
			wantThereAndBack(t, p)
		}
	}
	for _, e := range []api.Errno{fine, badTop, badName, twice, badWord, badValue, noMain, badLeave} {
		if met[e] == 0 {
			t.Errorf("error %d was not met: %v", e, met)
		}
	}
}

// slip changes one thing of a program.
func slip(m *maker, p *api.Program) {
	all := allNodes(*p)
	d := &p.Defs[m.Intn(len(p.Defs))]
	switch kind := m.Intn(10); {
	case kind < 6 && len(all) > 0:
		n := all[m.Intn(len(all))]
		switch m.Intn(6) {
		case 0:
			n.Kind = m.Intn(11)
		case 1:
			n.Op = m.Intn(66)
		case 2:
			n.Name = d.Name
		case 3:
			n.Has = !n.Has
		case 4:
			n.Then, n.Else = plainNodes(n.Else), plainNodes(n.Then)
		case 5:
			*n = exit()
		}
	case kind == 6:
		d.Kind = m.Intn(5)
	case kind == 7:
		d.Name = m.one("main dup if a 7 ((")
	case kind == 8:
		d.Value = uint16(m.Intn(65536))
	case len(p.Banks) > 0:
		p.Banks[m.Intn(len(p.Banks))].Num = m.Intn(20) - 2
	}
}
