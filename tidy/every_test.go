package tidy_test

import (
	"fmt"
	"math/rand"
	"slices"
	"strings"
	"testing"

	"wisp/api"
	"wisp/num"
	"wisp/sources"
	"wisp/tidy"
	"wisp/trees"
)

// count is how many nodes there are, inner ones too.
func count(list []api.Node) int {
	many := 0
	trees.Each(list, func(*api.Node) { many++ })
	return many
}

// wantAsModel asks for what the model tells, and for what 24.6 and 24.7 say of it.
func wantAsModel(t *testing.T, m *model, list []api.Node) {
	t.Helper()
	got, want := tidy.Body(list), m.body(list)
	if !same(got, want) {
		t.Fatalf("24.2: Body of %+v = %+v, want %+v", plain(list), plain(got), plain(want))
	}
	if again := tidy.Body(got); !same(again, got) {
		t.Fatalf("24.6: Body of %+v = %+v, and Body of that %+v", plain(list), plain(got), plain(again))
	}
	if m.applies(got) {
		t.Fatalf("24.7: Body of %+v = %+v: a rule applies", plain(list), plain(got))
	}
	if count(got) > count(list) {
		t.Fatalf("24.7: Body of %+v = %+v: more nodes", plain(list), plain(got))
	}
}

// placed is nodes each of which has a place of its own.
func placed(list []api.Node) []api.Node {
	list = plain(list)
	i := 0
	trees.Each(list, func(n *api.Node) { i++; n.Pos = api.Pos{Line: i, Col: 1000 - i} })
	return list
}

// alphabet is these primitives, by their names, and all other kinds of nodes, with lists and without.
func alphabet(t *testing.T, primitives string) []api.Node {
	t.Helper()
	list := nodes(t, primitives)
	for _, src := range []string{
		"0 1 2 7 65535 x", "exit", "begin again", "begin x again", "do loop",
		"if then if else then if x then if else x then if x else then if x else y then",
		"begin until begin 0 until begin 1 until begin x 1 until",
		"begin while repeat begin 0 while x repeat begin 1 while x repeat begin x 1 while drop repeat",
	} {
		list = append(list, nodes(t, src)...)
	}
	return append(list, api.Node{}, api.Node{Kind: 77, Op: opNop, Value: 1, Has: true})
}

func TestEveryPair(t *testing.T) { // 24.2: of all primitives and of all other kinds of nodes, with something ahead and behind
	t.Parallel()
	m := newModel()
	all := alphabet(t, sources.Primitives)
	for _, a := range all {
		for _, b := range all {
			wantAsModel(t, m, placed([]api.Node{a, b}))
			wantAsModel(t, m, placed([]api.Node{{Kind: nodeCall, Name: "x"}, a, b, {Kind: nodeDo}}))
			wantAsModel(t, m, placed([]api.Node{{Kind: nodeWhile, Then: []api.Node{a}, Else: []api.Node{b}}}))
			wantAsModel(t, m, placed([]api.Node{{Kind: nodeIf, Then: []api.Node{a}, Else: []api.Node{b}, Has: true}}))
		}
	}
}

func TestEveryThree(t *testing.T) { // 24.2: several rules at one place, and rules that others make apply
	t.Parallel()
	m := newModel()
	all := alphabet(t, "nop dup drop swap over nip + - / < = negate 1+ 0= @ >r r> i yield halt")
	for _, a := range all {
		for _, b := range all {
			for _, c := range all {
				wantAsModel(t, m, placed([]api.Node{a, b, c}))
			}
		}
	}
}

func TestEveryFour(t *testing.T) { // 24.2: of fewer nodes
	t.Parallel()
	m := newModel()
	all := slices.Concat(nodes(t, "0 1 7 dup drop swap over + 0= begin x again"), nodes(t, "if x 1 then begin x 1 until"))
	for i := range len(all) * len(all) * len(all) * len(all) {
		var list []api.Node
		for range 4 {
			list = append(list, all[i%len(all)])
			i /= len(all)
		}
		wantAsModel(t, m, placed(list))
	}
}

func TestEveryPrimitiveOfNumbers(t *testing.T) { // 24.2: rules 2 and 3, and 5 where a number is dropped; of no primitives too
	t.Parallel()
	m := newModel()
	edges := []uint16{0, 1, 2, 15, 16, 32767, 32768, 65534, 65535}
	for op := -2; op < 70; op++ {
		for _, x := range edges {
			list := []api.Node{{Kind: nodeLit, Value: x}, {Kind: nodePrim, Op: op}}
			wantAsModel(t, m, placed(list))
			if z, is := num.Unary(op, x); is {
				wantNodes(t, "rule 2", list, []api.Node{{Kind: nodeLit, Value: z}})
			}
			for _, y := range edges {
				list := []api.Node{{Kind: nodeLit, Value: x}, {Kind: nodeLit, Value: y}, {Kind: nodePrim, Op: op}}
				wantAsModel(t, m, placed(list))
				if z, is := num.Binary(op, x, y); is {
					wantNodes(t, "rule 3", list, []api.Node{{Kind: nodeLit, Value: z}})
				}
			}
		}
	}
	for op := -2; op < 70; op++ {
		_, one := num.Unary(op, 0)
		_, two := num.Binary(op, 0, 0)
		among := func(names string) bool {
			return slices.ContainsFunc(strings.Fields(names), func(s string) bool { return opOf(s) == op })
		}
		if one != among(unary) || two != among(binary) {
			t.Errorf("the tests' own names: %d", op)
		}
	}
}

func TestEveryBody(t *testing.T) { // 24.1, 24.2: of few words, with all structures in one another
	for _, c := range []struct {
		leaves string
		most   int
	}{
		{"0 1 x exit", 4},
		{"0 2 drop nop", 4},
		{"1 0= halt swap", 4},
		{"0 1", 5},
	} {
		t.Run(c.leaves, func(t *testing.T) {
			t.Parallel()
			m := newModel()
			for many := range c.most + 1 {
				for _, src := range sources.Bodies(strings.Fields(c.leaves), many, false) {
					wantAsModel(t, m, nodes(t, src))
				}
			}
		})
	}
}

// drawer draws lists of nodes.
type drawer struct {
	*rand.Rand
	numbers []uint16
	junk    bool // fields that a node's kind does not use are drawn too
	odd     bool // there are nodes of a kind that is none of the nine
}

// list draws one of so many nodes at most, in one another up to so deep.
func (d drawer) list(most, deep int) []api.Node {
	var list []api.Node
	for range d.Intn(most + 1) {
		list = append(list, d.node(most, deep))
	}
	return list
}

func (d drawer) node(most, deep int) api.Node {
	n := api.Node{Kind: nodePrim, Pos: api.Pos{Line: d.Intn(100), Col: d.Intn(100)}}
	switch k := d.Intn(20); {
	case k < 6:
		n.Kind = nodeLit
	case k < 7:
		n.Kind = nodeCall
	case k < 8 && d.odd:
		n.Kind = []int{0, -1, 10, 77}[d.Intn(4)]
	case k < 14 && deep > 0:
		n.Kind = []int{nodeIf, nodeIf, nodeUntil, nodeWhile, nodeWhile, nodeAgain, nodeDo, nodeExit}[d.Intn(8)]
	}
	is := func(kinds ...int) bool {
		return d.junk && d.Intn(3) == 0 || slices.Contains(kinds, n.Kind)
	}
	if is(nodePrim) {
		n.Op = d.op()
	}
	if is(nodeLit) {
		n.Value = d.numbers[d.Intn(len(d.numbers))]
	}
	if is(nodeCall) {
		n.Name = "x"
	}
	if is(nodeIf) {
		n.Has = d.Intn(2) == 0
	}
	if is(nodeIf, nodeUntil, nodeWhile, nodeAgain, nodeDo) && deep > 0 {
		n.Then = d.list(most, deep-1)
	}
	if (is(nodeWhile) || n.Kind == nodeIf && n.Has) && deep > 0 {
		n.Else = d.list(most, deep-1)
	}
	return n
}

// op draws one of the primitives that stand in many rules, or any.
func (d drawer) op() int {
	if d.Intn(3) == 0 {
		return d.Intn(70) - 3
	}
	often := strings.Fields("nop dup drop drop drop swap swap over over + - * = 0= 0= 1+ 1- >r r> and halt")
	return opOf(often[d.Intn(len(often))])
}

func TestDrawnNodes(t *testing.T) { // 24.1, 24.2: of all kinds, in one another, with fields of other kinds
	t.Parallel()
	for seed, c := range []drawer{
		{numbers: []uint16{0, 1, 2, 7, 65535}},
		{numbers: []uint16{0, 1}, odd: true},
		{numbers: []uint16{0, 1, 7, 32768}, junk: true},
		{numbers: []uint16{1}, junk: true, odd: true},
	} {
		t.Run(fmt.Sprint(seed), func(t *testing.T) {
			t.Parallel()
			m := newModel()
			c.Rand = rand.New(rand.NewSource(int64(2400 + seed)))
			shorter := 0
			for range 8000 {
				list := c.list(1+c.Intn(9), c.Intn(5))
				wantAsModel(t, m, list)
				if count(tidy.Body(list)) < count(list) {
					shorter++
				}
			}
			if shorter < 2500 {
				t.Errorf("%d of the lists became shorter", shorter)
			}
		})
	}
}

func TestDrawnLongLists(t *testing.T) { // 24.2: many rounds, one list
	t.Parallel()
	m := newModel()
	d := drawer{Rand: rand.New(rand.NewSource(2410)), numbers: []uint16{0, 1, 2, 7, 65535}}
	for range 200 {
		wantAsModel(t, m, d.list(120, 1))
	}
}
