package tidy_test

import (
	"slices"
	"strconv"
	"strings"

	"wisp/api"
	"wisp/num"
	"wisp/sources"
)

// The kinds of nodes by the document's numbers.
const (
	nodePrim  = 1
	nodeLit   = 2
	nodeCall  = 3
	nodeIf    = 4
	nodeUntil = 5
	nodeWhile = 6
	nodeAgain = 7
	nodeDo    = 8
	nodeExit  = 9
)

// The primitives that num does, by the names that chapter 1 gives.
const (
	unary  = "negate abs 1+ 1- 2* 2/ invert 0= 0<"
	binary = "+ - * / mod u/ umod min max and or xor lshift rshift = <> < > u< u>"
)

// Primitives of which the model asks by their numbers.
const (
	opNop   = 9
	opYield = 10
	opHalt  = 11
	opSwap  = 14
	opZero  = 48
)

// nothings is rule 4, word by word.
const nothings = "swap swap; negate negate; invert invert; 1+ 1-; 1- 1+; >r r>; r> >r; dup drop; over drop; n drop; i drop; j drop; r@ drop; pad drop; dup nip; 0 +; 0 -; 0 or; 0 xor; 0 lshift; 0 rshift; 1 *; 1 /; 1 u/; 65535 and"

// shorts is rule 5, where it names its words.
const shorts = "swap drop → nip; drop drop → 2drop; over over → 2dup; dup + → 2*; swap over → tuck; 1 + → 1+; 1 - → 1-; 65535 + → 1-; 65535 - → 1+; 2 * → 2*; 65535 * → negate; 0 = → 0=; 0 < → 0<; swap < → >; swap > → <; swap u< → u>; swap u> → u<; @ drop → drop; c@ drop → drop"

// row is a pair of words, and the word that stands in their place; "", if none does.
type row struct{ one, two, instead string }

func rowsOf4() []row {
	var all []row
	for line := range strings.SplitSeq(nothings, "; ") {
		one, two, _ := strings.Cut(line, " ")
		all = append(all, row{one, two, ""})
	}
	return all
}

func rowsOf5() []row {
	var all []row
	for line := range strings.SplitSeq(shorts, "; ") {
		pair, instead, _ := strings.Cut(line, " → ")
		one, two, _ := strings.Cut(pair, " ")
		all = append(all, row{one, two, instead})
	}
	for _, w := range strings.Fields("+ * and or xor = <> min max") {
		all = append(all, row{"swap", w, w})
	}
	for _, w := range strings.Fields(unary) {
		all = append(all, row{w, "drop", "drop"})
	}
	for _, w := range strings.Fields(binary) {
		all = append(all, row{w, "drop", "2drop"})
	}
	return all
}

// opOf is a primitive's number by its name.
func opOf(name string) int { return 9 + slices.Index(strings.Fields(sources.Primitives), name) }

// model is a plain reading of 24.1 and 24.2: each rule tells how many nodes from the place on are replaced, and by which.
type model struct {
	four, five []compiledRow
	rules      []func(list []api.Node) (int, []api.Node, bool)
}

// compiledRow is a row with its words looked up.
type compiledRow struct {
	one, two func(api.Node) bool
	instead  []api.Node
}

func newModel() *model {
	m := &model{four: compiled(rowsOf4()), five: compiled(rowsOf5())}
	m.rules = []func([]api.Node) (int, []api.Node, bool){
		rule1, rule2, rule3, m.rule4, m.rule5, rule6, rule7, rule8, rule9, rule10, rule11, m.rule12, m.rule13, rule14,
	}
	return m
}

// wordFits is whether a node is what a word of a rule says: n is any number, a numeral that number, all else a primitive.
func wordFits(word string) func(api.Node) bool {
	for _, value := range []uint16{0, 1, 2, 65535} {
		if strconv.Itoa(int(value)) == word {
			return func(n api.Node) bool { return n.Kind == nodeLit && n.Value == value }
		}
	}
	if word == "n" {
		return func(n api.Node) bool { return n.Kind == nodeLit }
	}
	op := opOf(word)
	return func(n api.Node) bool { return n.Kind == nodePrim && n.Op == op }
}

func compiled(rows []row) []compiledRow {
	var all []compiledRow
	for _, r := range rows {
		c := compiledRow{one: wordFits(r.one), two: wordFits(r.two)}
		if r.instead != "" {
			c.instead = []api.Node{{Kind: nodePrim, Op: opOf(r.instead)}}
		}
		all = append(all, c)
	}
	return all
}

// body is Body.
func (m *model) body(list []api.Node) []api.Node {
	list = slices.Clone(list)
	for i := range list {
		list[i].Then, list[i].Else = m.body(list[i].Then), m.body(list[i].Else)
	}
	for {
		place, rule := m.first(list)
		if rule < 0 {
			return list
		}
		many, by, _ := m.rules[rule](list[place:])
		list = slices.Concat(list[:place], by, list[place+many:])
	}
}

// first tells the first place from the left at which a rule applies, and the first that does; -1, if none does anywhere.
func (m *model) first(list []api.Node) (place, rule int) {
	for place := range list {
		for rule, does := range m.rules {
			if _, _, is := does(list[place:]); is {
				return place, rule
			}
		}
	}
	return 0, -1
}

// applies tells whether a rule applies anywhere in a list, or in a list inside it.
func (m *model) applies(list []api.Node) bool {
	if _, rule := m.first(list); rule >= 0 {
		return true
	}
	return slices.ContainsFunc(list, func(n api.Node) bool { return m.applies(n.Then) || m.applies(n.Else) })
}

func numberAt(list []api.Node, i int) bool { return i < len(list) && list[i].Kind == nodeLit }

func primAt(list []api.Node, i int) bool { return i < len(list) && list[i].Kind == nodePrim }

func ifAt(list []api.Node, i int) bool { return i < len(list) && list[i].Kind == nodeIf }

func number(x uint16, at api.Pos) []api.Node {
	return []api.Node{{Kind: nodeLit, Value: x, Pos: at}}
}

func prim(name string, at api.Pos) []api.Node {
	return []api.Node{{Kind: nodePrim, Op: opOf(name), Pos: at}}
}

func rule1(list []api.Node) (int, []api.Node, bool) {
	return 1, nil, primAt(list, 0) && list[0].Op == opNop
}

func rule2(list []api.Node) (int, []api.Node, bool) {
	if !numberAt(list, 0) || !primAt(list, 1) {
		return 0, nil, false
	}
	z, is := num.Unary(list[1].Op, list[0].Value)
	return 2, number(z, list[0].Pos), is
}

func rule3(list []api.Node) (int, []api.Node, bool) {
	if !numberAt(list, 0) || !numberAt(list, 1) || !primAt(list, 2) {
		return 0, nil, false
	}
	z, is := num.Binary(list[2].Op, list[0].Value, list[1].Value)
	return 3, number(z, list[0].Pos), is
}

// ofRows is a rule that is rows.
func ofRows(rows []compiledRow, list []api.Node) (int, []api.Node, bool) {
	for _, r := range rows {
		if len(list) > 1 && r.one(list[0]) && r.two(list[1]) {
			by := slices.Clone(r.instead)
			for i := range by {
				by[i].Pos = list[0].Pos
			}
			return 2, by, true
		}
	}
	return 0, nil, false
}

func (m *model) rule4(list []api.Node) (int, []api.Node, bool) { return ofRows(m.four, list) }

func (m *model) rule5(list []api.Node) (int, []api.Node, bool) { return ofRows(m.five, list) }

func rule6(list []api.Node) (int, []api.Node, bool) {
	if !numberAt(list, 0) || !numberAt(list, 1) || !primAt(list, 2) || list[2].Op != opSwap {
		return 0, nil, false
	}
	return 3, []api.Node{list[1], list[0]}, true
}

func rule7(list []api.Node) (int, []api.Node, bool) {
	if !numberAt(list, 0) || !numberAt(list, 1) || list[0].Value != list[1].Value {
		return 0, nil, false
	}
	return 2, append([]api.Node{list[0]}, prim("dup", list[1].Pos)...), true
}

func rule8(list []api.Node) (int, []api.Node, bool) {
	if !primAt(list, 0) || !primAt(list, 1) || list[0].Op != opZero || list[1].Op != opZero || !ifAt(list, 2) {
		return 0, nil, false
	}
	return 3, []api.Node{list[2]}, true
}

func rule9(list []api.Node) (int, []api.Node, bool) {
	if !numberAt(list, 0) || !ifAt(list, 1) {
		return 0, nil, false
	}
	switch {
	case list[0].Value != 0:
		return 2, list[1].Then, true
	case list[1].Has:
		return 2, list[1].Else, true
	}
	return 2, nil, true
}

func rule10(list []api.Node) (int, []api.Node, bool) {
	n := list[0]
	if n.Kind != nodeIf || len(n.Then) > 0 || n.Has && len(n.Else) > 0 {
		return 0, nil, false
	}
	return 1, prim("drop", n.Pos), true
}

func rule11(list []api.Node) (int, []api.Node, bool) {
	n := list[0]
	if n.Kind != nodeIf || !n.Has || len(n.Else) > 0 {
		return 0, nil, false
	}
	return 1, []api.Node{{Kind: nodeIf, Then: n.Then, Pos: n.Pos}}, true
}

// endsWith tells the number with which a loop's Then ends, and what stands ahead of it.
func endsWith(n api.Node, kind int) (uint16, []api.Node, bool) {
	last := len(n.Then) - 1
	if n.Kind != kind || last < 0 || n.Then[last].Kind != nodeLit {
		return 0, nil, false
	}
	return n.Then[last].Value, n.Then[:last:last], true
}

func (m *model) rule12(list []api.Node) (int, []api.Node, bool) {
	x, then, is := endsWith(list[0], nodeUntil)
	if is && x == 0 {
		return 1, []api.Node{{Kind: nodeAgain, Then: m.body(then), Pos: list[0].Pos}}, true
	}
	return 1, then, is
}

func (m *model) rule13(list []api.Node) (int, []api.Node, bool) {
	x, then, is := endsWith(list[0], nodeWhile)
	if is && x != 0 {
		return 1, []api.Node{{Kind: nodeAgain, Then: m.body(append(then, list[0].Else...)), Pos: list[0].Pos}}, true
	}
	return 1, then, is
}

func rule14(list []api.Node) (int, []api.Node, bool) {
	n := list[0]
	ends := n.Kind == nodeExit || n.Kind == nodeAgain || n.Kind == nodePrim && n.Op == opHalt
	return len(list), list[:1], ends && len(list) > 1
}
