package tidy_test

import (
	"slices"
	"strings"
	"testing"

	"wisp/api"
	"wisp/tidy"
	"wisp/trees"
)

func TestTheFirstRuleAtTheFirstPlace(t *testing.T) { // 24.1: several rules apply
	for _, c := range []struct{ src, want string }{
		// At one place: the rule that stands first.
		{"7 7 +", "14:0"},              // 3, not 7
		{"7 7 =", "65535:0"},           // 3, not 7
		{"7 7 swap", "=1 dup:0"},       // 6, then 7; not 7 alone
		{"0 0 swap", "=1 dup:0"},       // 6, then 7
		{"5 invert", "65530:0"},        // 2
		{"0 0=", "65535:0"},            // 2
		{"65535 65535 and", "=0"},      // 3, and not 7 then
		{"halt nop", "=0"},             // 14, not 1 at the next place
		{"exit 2 3 +", "=0"},           // 14, not 3 at the next place
		{"swap drop drop", "nip:0 =2"}, // 5, not drop drop
		// At several places: the leftmost.
		{"swap swap drop", "=2"},         // 4, not 5 behind it
		{"over over drop", "2dup:0 =2"},  // 5, not 4 behind it
		{"over over over", "2dup:0 =2"},  // 5 from the left
		{"drop drop drop", "2drop:0 =2"}, // 5 from the left
		{"dup dup drop", "=0"},           // 4
		{"swap swap over", "=2"},         // 4, not swap over
		{"swap drop drop drop", "nip:0 2drop:2"},
		{"negate negate drop", "=2"},   // 4, not 5 behind it
		{"negate negate negate", "=2"}, // 4 from the left
		{"1+ 1- 1+", "=2"},
		{"r> >r r>", "=2"},
		{">r r> >r", "=2"},
		{"7 7 7 +", "=0 dup:1 =2 =3"}, // 7, so that 3 never applies
		{"7 7 7", "=0 dup:1 =2"},      // 7 from the left
		{"7 7 7 7", "=0 dup:1 =2 dup:3"},
		{"7 7 drop", "=0"},            // 7, then 4
		{"7 7 negate", "=0 dup:1 =2"}, // 7, so that 2 never applies
		{"2 3 4 +", "=0 7:1"},
		{"2 3 4 + +", "9:0"},
		{"1 2 3 swap", "=0 =2 =1"},
		{"1 2 3 swap swap", "=0 =1 =2"},
		{"4 4 5 swap", "=0 dup:1 =2 =3"},
		{"5 1 0 + +", "6:0"},
		{"5 0 +", "5:0"}, // 3, not 4 behind it: the same number, and no other
		{"5 1 *", "5:0"},
		{"x 0 0 +", "=0 0:1"},
	} {
		list := nodes(t, c.src)
		wantNodes(t, "24.1: "+c.src, list, right(list, c.want))
	}
}

func TestRulesThatOthersMakeApply(t *testing.T) { // 24.1: anew from the left, until none applies
	for _, c := range []struct{ src, want string }{
		// Further left than what was done.
		{"1 nop +", "1+:0"},
		{"1 2 nop +", "3:0"},
		{"1 2 nop nop nop swap", "=1 =0"},
		{"swap 1+ 1- swap", ""},
		{"over swap 1+ nop 1- swap drop", ""},
		{"dup 5 1 - 4 - drop", "=0"},
		{"negate 3 drop negate", ""},
		{"5 3 1 - *", "10:0"},
		{"5 2 1 - *", "5:0"},
		{"5 6 7 + + 8 +", "26:0"},
		{"yield 1 2 3 4 5 + + + +", "=0 15:1"},
		{"swap dup drop over", "tuck:0"},
		{"over nop over", "2dup:0"},
		{"@ 7 drop drop", "drop:0"},
		{"- swap swap drop", "2drop:0"},
		{"1 2 3 drop", "=0 =1"},
		{"7 8 1 - ", "=0 dup:1"},
		{"swap nop <", ">:0"},
		{"swap swap swap swap swap", "=4"},
		{"0= nop 0= if x then", "=3"},
		{"0= 0= 0= 0= if x then", "=4"},
		{"0= 0= 0= if x then", "=0 =3"},
		{"swap invert invert swap 2 1 - *", ""},
		{"x 5 negate negate 5 - 0 = drop", "=0"},
		// By what a structure came to.
		{"swap if then", "nip:0"},
		{"dup if then", ""},
		{"pad if else nop then", ""},
		{"drop if then drop", "2drop:0 =2"},
		{"1 begin 3 drop 1 until +", "1+:0"},
		{"swap begin 0 while x repeat swap", ""},
		{"1 2 if nop else x then +", "1+:0"},
		{"halt nop begin 0 until", "=0"},
		{"exit begin x 1 until y", "=0"},
	} {
		list := nodes(t, c.src)
		wantNodes(t, "24.1: "+c.src, list, right(list, c.want))
	}
	for _, c := range [][2]string{
		{"3 1 if 4 else 5 then +", "7"},
		{"3 0 if 4 else 5 then +", "8"},
		{"3 0 if 4 then 1+", "4"},
		{"swap 1 if swap x else y then", "x"},
		{"3 1 if 2 then swap", "2 3"},
		{"7 1 if 7 then", "7 dup"},
		{"0= 1 if 0= then if x then", "if x then"},
		{"0= 0= 1 if if x then then", "if x then"},
		{"3 1 if if x then then", "x"},
		{"1 1 if if x then then", "1 dup if if x then then"},
		{"1 1 1 if if if x then then then", "1 dup if if x then then"},
		{"2 begin 3 1 until +", "5"},
		{"begin x 1 until begin y 2 until", "x y"},
		{"begin 0 1 until if x then y", "y"},
		{"x begin 1 0 while y repeat +", "x 1+"},
		{"begin exit 1 until x", "begin exit until x"},
		{"1 if exit then x", "exit"},
		{"1 if halt else x then y", "halt"},
		{"x 0 if y else begin yield again then y", "x begin yield again"},
		{"begin yield 1 if 0 else 1 then until x", "begin yield again"},
		{"begin begin yield 0 until x 0 until x", "begin begin yield again until x"},
	} {
		wantText(t, "24.1", c[0], c[1])
	}
}

func TestInnerListsFirst(t *testing.T) { // 24.1, 24.2: within each other
	for _, c := range [][2]string{
		{"if 5 drop else then", "drop"},
		{"if 5 drop else 6 drop then", "drop"},
		{"if nop then", "drop"},
		{"if x else nop then", "if x then"},
		{"if nop else x then", "if else x then"},
		{"if if nop then else then", "if drop then"},
		{"begin 1 0= until", "begin again"},
		{"begin 0 0= until", ""},
		{"begin 2 1 - while x repeat", "begin x again"},
		{"begin 1 1 - while x repeat", ""},
		{"begin if then 1 until", "drop"},
		{"begin begin x 1 until 0 until", "begin x again"},
		{"begin begin 0 until 1 until", "begin begin again until"},
		{"do if 1 if x then else nop then loop", "do if x then loop"},
		{"if begin exit x again y then", "if begin exit again then"},
		{"do begin halt x until loop", "do begin halt until loop"},
		// What 12 and 13 have made of a NodeAgain's Then is made Body of it.
		{"begin 1- 1 while 1+ repeat", "begin again"},
		{"begin swap 1 while drop x repeat", "begin nip x again"},
		{"begin 5 2 while negate x repeat", "begin 65531 x again"},
		{"begin 2 1 while 3 + bank repeat", "begin 5 bank again"},
		{"begin 2 3 1 while + bank repeat", "begin 5 bank again"},
		{"begin 7 1 while 7 plot repeat", "begin 7 dup plot again"},
		{"begin 1 2 3 while swap plot repeat", "begin 2 1 plot again"},
		{"begin 1 2 while if x then repeat", "begin x again"},
		{"begin 0= 1 while 0= if x then repeat", "begin if x then again"},
		{"begin exit 1 while x repeat", "begin exit while x repeat"},
		{"begin x 1 while exit repeat y", "begin x exit again"},
		{"begin if exit then 1 while exit repeat", "begin if exit then exit again"},
		{"begin begin yield 1 while bank repeat 1 while x repeat", "begin begin yield bank again while x repeat"},
		{"begin begin x 1 until 1 while begin y 1 until repeat", "begin x y again"},
		{"begin swap 1 while begin swap 1 while swap repeat repeat", "begin swap begin again again"},
		{"begin 1 while begin 1 while begin 1 while nop repeat repeat repeat", "begin begin begin again again again"},
		{"begin begin 0 until 0 until", "begin begin again until"},
		{"begin x 1 0 until", "begin x 1 again"},
		{"begin x 1 0 while repeat", "x 1"},
		{"begin begin 1 0 until 1 until", "begin begin 1 again until"},
	} {
		wantText(t, "24.1", c[0], c[1])
	}
}

func TestNodesOfNoKind(t *testing.T) { // 24.1: they stay as they are, but for their lists
	for _, kind := range []int{0, -1, 10, 77, 1 << 40} {
		odd := api.Node{Kind: kind, Op: opNop, Value: 1, Name: "x", Has: true, Pos: api.Pos{Line: 3, Col: 4}}
		odd.Then, odd.Else = nodes(t, "2 3 + begin x 1 until"), nodes(t, "nop exit y")
		want := odd
		want.Then = slices.Concat(number(5, odd.Then[0].Pos), odd.Then[3].Then[:1])
		want.Else = odd.Else[1:2]
		wantNodes(t, "24.1: a node of no kind", []api.Node{odd}, []api.Node{want})
		for _, s := range []string{"1 2 ODD +", "swap ODD swap", "7 ODD 7", "0= ODD 0=", "1 ODD", "ODD drop", "x ODD ODD", "dup ODD drop", "1 ODD if x then"} {
			list, left := withOdd(t, s, odd), withOdd(t, s, want)
			wantNodes(t, "24.1: between others: "+s, list, left)
		}
		list := withOdd(t, "exit ODD", odd)
		wantNodes(t, "24.1: behind exit", list, list[:1])
		list = withOdd(t, "nop ODD nop", odd)
		wantNodes(t, "24.1: between others", list, []api.Node{want})
	}
}

// withOdd is the nodes of a text, in which that node stands where it says ODD.
func withOdd(t *testing.T, src string, odd api.Node) []api.Node {
	t.Helper()
	list := nodes(t, strings.ReplaceAll(src, "ODD", "y"))
	for i := range list {
		if list[i].Name == "y" {
			list[i] = odd
		}
	}
	return list
}

func TestListsOfNodesThatHaveNone(t *testing.T) { // 24.1: whatever the node, its lists are made Body of them
	for kind := 1; kind < 10; kind++ {
		n := api.Node{Kind: kind, Op: opYield, Value: 3, Then: nodes(t, "nop x"), Else: nodes(t, "2 3 +")}
		want := n
		want.Then, want.Else = n.Then[1:], number(5, n.Else[0].Pos)
		wantNodes(t, "24.1: a node with lists", []api.Node{n}, []api.Node{want})
	}
}

func TestNoNodes(t *testing.T) { // R4: nil and empty
	for _, list := range [][]api.Node{nil, {}, make([]api.Node, 0, 9)} {
		wantNodes(t, "24.1: no nodes", list, nil)
	}
	for _, empty := range [][]api.Node{nil, {}} {
		drop := prim("drop", api.Pos{})
		wantNodes(t, "rule 10", []api.Node{{Kind: nodeIf, Then: empty, Else: empty}}, drop)
		wantNodes(t, "rule 10", []api.Node{{Kind: nodeIf, Then: empty, Else: empty, Has: true}}, drop)
		wantNodes(t, "rule 11", []api.Node{{Kind: nodeIf, Then: nodes(t, "x"), Else: empty, Has: true}}, []api.Node{{Kind: nodeIf, Then: nodes(t, "x")}})
		for _, kind := range []int{nodeUntil, nodeWhile, nodeAgain, nodeDo} {
			list := []api.Node{{Kind: kind, Then: empty, Else: empty}}
			wantNodes(t, "24.1: without nodes", list, list)
		}
	}
}

func TestManyAndDeep(t *testing.T) { // R1: every call ends, of long lists and deep ones too
	const many = 1 << 16
	wantNodes(t, "R1: nop", trees.Prims(many, opNop), nil)
	wantNodes(t, "R1: swap", trees.Prims(many+1, opSwap), trees.Prims(1, opSwap))
	wantNodes(t, "R1: drop", trees.Prims(2*many, opOf("drop")), trees.Prims(many, opOf("drop")+7))
	sum := append(slices.Repeat(number(1, api.Pos{}), many), trees.Prims(many-1, opOf("+"))...)
	if got := tidy.Body(sum); len(got) == 0 || count(got) > count(sum) {
		t.Errorf("R1: a long sum: %d nodes", len(got))
	}
	x, one := api.Node{Kind: nodeCall, Name: "x"}, number(1, api.Pos{})[0]
	for _, n := range []api.Node{{Kind: nodeIf}, {Kind: nodeUntil}, {Kind: nodeWhile}, {Kind: nodeAgain}, {Kind: nodeDo}} {
		var list []api.Node
		for range many {
			n.Then = list
			list = []api.Node{x, n}
		}
		// Of the innermost if comes drop.
		if got := count(tidy.Body(list)); got != 2*many {
			t.Errorf("R1: deep in kind %d: %d nodes", n.Kind, got)
		}
	}
	// Lists that come out of one another, up to the outermost.
	var ifs, untils, whiles []api.Node
	for range many {
		ifs = []api.Node{x, one, {Kind: nodeIf, Then: ifs}}
		untils = []api.Node{x, {Kind: nodeUntil, Then: append(untils, one)}}
		whiles = []api.Node{x, {Kind: nodeWhile, Then: []api.Node{one}, Else: whiles}}
	}
	if got := tidy.Body(ifs); len(got) != many {
		t.Errorf("R1: ifs: %d nodes", len(got))
	}
	if got := tidy.Body(untils); len(got) != many {
		t.Errorf("R1: untils: %d nodes", len(got))
	}
	if got := tidy.Body(whiles); len(got) != 2 || count(got) != 2*many {
		t.Errorf("R1: whiles: %d nodes", count(got))
	}
}
