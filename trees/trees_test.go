package trees_test

import (
	"testing"

	"wisp/api"
	"wisp/layout"
	"wisp/tree"
	"wisp/trees"
)

func roomOf(p api.Program) api.Errno {
	_, _, _, _, e := layout.Of(p)
	return e
}

func TestErrorsAreThoseOfTheLayers(t *testing.T) {
	met := map[api.Errno]int{}
	for _, x := range trees.Wrong() {
		met[x.Err]++
		if e := tree.Check(x.Program); e != x.Err {
			t.Errorf("%s: %d, want %d", x.What, e, x.Err)
		}
	}
	for _, x := range trees.Full() {
		met[x.Err]++
		if e, f := tree.Check(x.Program), roomOf(x.Program); e != 0 || f != x.Err {
			t.Errorf("%s: %d, %d, want %d", x.What, e, f, x.Err)
		}
	}
	for _, x := range trees.Both() {
		if e, f := tree.Check(x.Program), roomOf(x.Program); e != x.Err || f == 0 {
			t.Errorf("%s: %d, %d, want %d", x.What, e, f, x.Err)
		}
	}
	// ErrPair and ErrEnd are a text's alone: no program has them.
	for _, e := range []api.Errno{100, 101, 102, 103, 106, 107, 108, 109, 110, 111, 112} {
		if met[e] == 0 {
			t.Errorf("no program has the error %d", e)
		}
	}
	for _, p := range trees.JustTaken() {
		if e, f := tree.Check(p), roomOf(p); e != 0 || f != 0 {
			t.Errorf("%.100v: %d, %d", p, e, f)
		}
	}
}

func TestEachNode(t *testing.T) {
	body := append(trees.Within(3, 4, trees.Prims(2, 9)...), trees.Prims(1, 12)...)
	body[0].Then[0].Else = trees.Prims(3, 10)
	sum := 0
	trees.Each(body, func(n *api.Node) { sum += n.Op; n.Value++ })
	if sum != 2*9+12+3*10 || body[0].Value != 1 || body[0].Then[0].Else[2].Value != 1 {
		t.Errorf("%d, %v", sum, body)
	}
}
