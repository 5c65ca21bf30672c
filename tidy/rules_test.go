package tidy_test

import (
	"slices"
	"strconv"
	"strings"
	"testing"

	"wisp/api"
	"wisp/tidy"
)

// wantNodes asks for just these nodes, places and all fields too.
func wantNodes(t *testing.T, what string, list, want []api.Node) {
	t.Helper()
	if got := tidy.Body(list); !same(got, want) {
		t.Errorf("%s: Body of %+v = %+v, want %+v", what, list, got, want)
	}
}

// right is what stands on the right of a rule, from the nodes on its left: =k is the very one that stands there as the k-th, WORD:k a new one with its place.
func right(left []api.Node, spec string) []api.Node {
	var all []api.Node
	for _, s := range strings.Fields(spec) {
		if k, is := strings.CutPrefix(s, "="); is && len(k) == 1 && '0' <= k[0] && k[0] <= '9' {
			all = append(all, left[k[0]-'0'])
			continue
		}
		cut := len(s) - 2
		at := left[s[cut+1]-'0'].Pos
		if x, e := strconv.Atoi(s[:cut]); e == nil {
			all = append(all, number(uint16(x), at)...)
		} else {
			all = append(all, prim(s[:cut], at)...)
		}
	}
	return all
}

// edges are numbers, 0 the first of them.
var edges = []string{"0", "1", "7", "32767", "32768", "65535"}

// neighbours are what may stand ahead of a rule's nodes and behind them, so that no rule applies with them.
var neighbours = [][2]string{
	{"", ""},
	{"x", "y"},
	{"yield", "yield"},
	{"plot", "plot"},
	{"if x then", "do x loop"},
	{"x y rot", "y x rot"},
	{"begin x while y repeat", "begin y while x repeat"},
}

// wantRule asks that nodes come to what a rule says, by themselves and with others ahead of them and behind them, which are as they were; and in each list inside others.
func wantRule(t *testing.T, rule, left, spec string) {
	t.Helper()
	many := len(nodes(t, left))
	for _, by := range neighbours {
		list := nodes(t, by[0]+" "+left+" "+by[1])
		from := len(nodes(t, by[0]))
		to := from + many
		want := slices.Concat(list[:from], right(list[from:to], spec), list[to:])
		wantNodes(t, rule+": "+left, list, want)
	}
	for _, around := range []string{"if x L y then", "if x L y else y then", "if y else x L y then", "begin x L y until", "begin x L y while y repeat", "begin y while x L y repeat", "begin x L y again", "do x L y loop", "do if begin x L y until then loop"} {
		list := nodes(t, strings.Replace(around, "L", left, 1))
		wantNodes(t, rule+": "+left+" in "+around, list, inside(list, many, spec))
	}
}

// inside is nodes in which the list that has more than one has had a rule done behind its first.
func inside(list []api.Node, many int, spec string) []api.Node {
	if len(list) > 1 {
		return slices.Concat(list[:1], right(list[1:1+many], spec), list[1+many:])
	}
	list = slices.Clone(list)
	for i := range list {
		n := &list[i]
		n.Then, n.Else = inside(n.Then, many, spec), inside(n.Else, many, spec)
	}
	return list
}

func TestRule1(t *testing.T) { wantRule(t, "rule 1", "nop", "") }

func TestRule2(t *testing.T) {
	for _, c := range [][2]string{
		{"5 negate", "65531:0"}, {"0 negate", "0:0"}, {"65535 abs", "1:0"}, {"32768 abs", "32768:0"}, {"65535 1+", "0:0"}, {"0 1-", "65535:0"}, {"32768 2*", "0:0"}, {"65533 2/", "65534:0"}, {"1 invert", "65534:0"}, {"5 0=", "0:0"}, {"0 0=", "65535:0"}, {"32768 0<", "65535:0"}, {"32767 0<", "0:0"},
	} {
		wantRule(t, "rule 2", c[0], c[1])
	}
}

func TestRule3(t *testing.T) {
	for _, c := range [][2]string{
		{"2 3 +", "5:0"}, {"65535 2 +", "1:0"}, {"2 3 -", "65535:0"}, {"300 300 *", "24464:0"}, {"65529 2 /", "65533:0"}, {"65529 2 mod", "65535:0"}, {"65529 2 u/", "32764:0"}, {"65529 2 umod", "1:0"}, {"32768 32767 min", "32768:0"}, {"32768 32767 max", "32767:0"},
		{"12 10 and", "8:0"}, {"12 10 or", "14:0"}, {"12 10 xor", "6:0"}, {"1 15 lshift", "32768:0"}, {"65535 15 rshift", "1:0"}, {"7 7 =", "65535:0"}, {"7 8 =", "0:0"}, {"7 8 <>", "65535:0"}, {"65535 0 <", "65535:0"}, {"65535 0 >", "0:0"}, {"65535 0 u<", "0:0"}, {"65535 0 u>", "65535:0"},
		{"7 0 /", "0:0"}, {"7 0 mod", "0:0"}, {"7 0 u/", "0:0"}, {"7 0 umod", "0:0"}, {"32768 65535 /", "32768:0"}, {"32768 65535 mod", "0:0"},
		{"1 16 lshift", "0:0"}, {"1 65535 lshift", "0:0"}, {"65535 16 rshift", "0:0"}, {"65535 65535 rshift", "0:0"},
		// Where rules 4 and 5 would take the second number and the primitive.
		{"9 0 +", "9:0"}, {"9 1 *", "9:0"}, {"9 1 /", "9:0"}, {"9 1 +", "10:0"}, {"9 0 =", "0:0"}, {"9 65535 *", "65527:0"},
	} {
		wantRule(t, "rule 3", c[0], c[1])
	}
}

func TestRule4(t *testing.T) {
	for _, r := range rowsOf4() {
		if r.one != "n" {
			wantRule(t, "rule 4", r.one+" "+r.two, "")
			continue
		}
		for _, n := range edges {
			wantRule(t, "rule 4", n+" "+r.two, "")
		}
	}
}

func TestRule5(t *testing.T) {
	for _, r := range rowsOf5() {
		wantRule(t, "rule 5", r.one+" "+r.two, r.instead+":0")
	}
}

func TestRule6(t *testing.T) {
	wantRule(t, "rule 6", "1 2 swap", "=1 =0")
	wantRule(t, "rule 6", "0 65535 swap", "=1 =0")
}

func TestRule7(t *testing.T) {
	for _, n := range edges {
		wantRule(t, "rule 7", n+" "+n, "=0 dup:1")
	}
}

func TestRule8(t *testing.T) {
	for _, way := range []string{"if x then", "if x else y then", "if else x then"} {
		wantRule(t, "rule 8", "0= 0= "+way, "=2")
	}
}

// wantWay asks that nodes come to some of the nodes inside them, which are the very ones that stood there.
func wantWay(t *testing.T, rule, src string, of func(list []api.Node) []api.Node) {
	t.Helper()
	many := len(nodes(t, src))
	for _, by := range neighbours {
		list := nodes(t, by[0]+" "+src+" "+by[1])
		from := len(nodes(t, by[0]))
		to := from + many
		wantNodes(t, rule+": "+src, list, slices.Concat(list[:from], of(list[from:to]), list[to:]))
	}
	for _, kind := range []int{nodeIf, nodeUntil, nodeWhile, nodeAgain, nodeDo} {
		list := nodes(t, src+" x")
		around := []api.Node{{Kind: kind, Then: list}}
		wantNodes(t, rule+": "+src+" in another", around, []api.Node{{Kind: kind, Then: append(of(list[:many]), list[many:]...)}})
	}
}

func TestRule9(t *testing.T) {
	then := func(l []api.Node) []api.Node { return slices.Clone(l[1].Then) }
	other := func(l []api.Node) []api.Node { return slices.Clone(l[1].Else) }
	none := func([]api.Node) []api.Node { return nil }
	for _, n := range edges[1:] {
		wantWay(t, "rule 9", n+" if x y else y then", then)
		wantWay(t, "rule 9", n+" if x y then", then)
		wantWay(t, "rule 9", n+" if else y then", none)
		wantWay(t, "rule 9", n+" if then", none)
	}
	wantWay(t, "rule 9", "0 if x y else y x plot then", other)
	wantWay(t, "rule 9", "0 if x y then", none)
	wantWay(t, "rule 9", "0 if x y else then", none)
	// Without Has there is no Else, whatever stands in the field.
	list := nodes(t, "0 if x then")
	list[1].Else = nodes(t, "y")
	wantNodes(t, "rule 9: an Else without Has", list, nil)
}

func TestRule10(t *testing.T) {
	wantRule(t, "rule 10", "if then", "drop:0")
	wantRule(t, "rule 10", "if else then", "drop:0")
	list := nodes(t, "x if then y")
	list[1].Else = nodes(t, "y")
	want := slices.Concat(list[:1], prim("drop", list[1].Pos), list[2:])
	wantNodes(t, "rule 10: an Else without Has", list, want)
	wantText(t, "rule 10", "if else x then", "if else x then")
}

func TestRule11(t *testing.T) {
	wantWay(t, "rule 11", "if x y else then", func(l []api.Node) []api.Node {
		return []api.Node{{Kind: nodeIf, Then: l[0].Then, Pos: l[0].Pos}}
	})
	list := nodes(t, "if x then")
	list[0].Has, list[0].Op, list[0].Value, list[0].Name = true, 9, 7, "x"
	wantNodes(t, "rule 11: other fields", list, []api.Node{{Kind: nodeIf, Then: list[0].Then, Pos: list[0].Pos}})
}

// again is a new NodeAgain in the place of the first of some nodes, with that body.
func again(l []api.Node, then ...api.Node) []api.Node {
	return []api.Node{{Kind: nodeAgain, Then: then, Pos: l[0].Pos}}
}

// wantEndless asks what nodes come to that never go on: what stands behind them goes.
func wantEndless(t *testing.T, rule, src string, of func(l []api.Node) []api.Node) {
	t.Helper()
	for _, by := range neighbours {
		list := nodes(t, by[0]+" "+src+" "+by[1])
		from := len(nodes(t, by[0]))
		wantNodes(t, rule+": "+src, list, slices.Concat(list[:from], of(list[from:])))
	}
}

func TestRule12(t *testing.T) {
	ahead := func(l []api.Node) []api.Node { return slices.Clone(l[0].Then[:len(l[0].Then)-1]) }
	for _, n := range edges[1:] {
		wantWay(t, "rule 12", "begin x y "+n+" until", ahead)
		wantWay(t, "rule 12", "begin "+n+" until", ahead)
	}
	for _, src := range []string{"begin x y 0 until", "begin 0 until", "begin if x then 0 until"} {
		wantEndless(t, "rule 12", src, func(l []api.Node) []api.Node { return again(l, ahead(l)...) })
	}
	list := nodes(t, "begin x 0 until")
	list[0].Has, list[0].Op, list[0].Value, list[0].Name, list[0].Else = true, 9, 7, "x", nodes(t, "y")
	wantNodes(t, "rule 12: other fields", list, again(list, list[0].Then[0]))
	for _, src := range []string{"begin until", "begin x until", "begin 0 x until"} {
		wantText(t, "rule 12", src, src)
	}
}

func TestRule13(t *testing.T) {
	ahead := func(l []api.Node) []api.Node { return slices.Clone(l[0].Then[:len(l[0].Then)-1]) }
	for _, n := range edges[1:] {
		for _, src := range []string{"begin x " + n + " while y repeat", "begin " + n + " while x y repeat", "begin x y " + n + " while repeat", "begin " + n + " while repeat"} {
			wantEndless(t, "rule 13", src, func(l []api.Node) []api.Node { return again(l, append(ahead(l), l[0].Else...)...) })
		}
	}
	for _, src := range []string{"begin x y 0 while y repeat", "begin 0 while x repeat", "begin 0 while repeat"} {
		wantWay(t, "rule 13", src, ahead)
	}
	list := nodes(t, "begin x 1 while y repeat")
	list[0].Has, list[0].Op, list[0].Value, list[0].Name = true, 9, 7, "x"
	wantNodes(t, "rule 13: other fields", list, again(list, list[0].Then[0], list[0].Else[0]))
	for _, src := range []string{"begin while repeat", "begin x while 0 repeat", "begin 0 x while repeat"} {
		wantText(t, "rule 13", src, src)
	}
}

func TestRule14(t *testing.T) {
	first := func(l []api.Node) []api.Node { return slices.Clone(l[:1]) }
	for _, src := range []string{"exit x", "exit exit", "exit nop", "halt x y", "halt halt", "halt 1 2 +", "begin x again y", "begin again begin again", "exit if x then"} {
		wantEndless(t, "rule 14", src, first)
	}
	for _, src := range []string{"exit", "halt", "begin x again", "x exit", "if exit then x", "begin exit until x", "yield x", "do begin again loop x"} {
		wantText(t, "rule 14", src, src)
	}
}

func TestNamesAreNoNumbers(t *testing.T) { // 24.2: whatever they name
	for _, src := range []string{
		"x drop", "x negate", "x 0=", "x y +", "x 3 +", "3 x +", "x +", "x *", "x x", "x y swap", "x 3 swap", "3 x swap",
		"x if y then", "begin x until", "begin 0 x until", "begin x while y repeat",
	} {
		wantText(t, "24.2: names", src, src)
	}
	// A field that a node's kind does not use is nothing to the rules.
	for _, kind := range []int{nodeLit, nodeCall, nodeIf, nodeUntil, nodeWhile, nodeDo} {
		list := []api.Node{{Kind: kind, Op: opNop, Value: 1, Then: nodes(t, "x"), Name: "x"}}
		wantNodes(t, "24.2: a node that is no primitive", list, list)
	}
	for _, kind := range []int{nodePrim, nodeCall, nodeIf, nodeAgain, nodeExit} {
		list := []api.Node{{Kind: kind, Op: opYield, Value: 1, Then: nodes(t, "x 1"), Name: "x"}}
		wantNodes(t, "24.2: a node that is no number", list, list)
	}
}
