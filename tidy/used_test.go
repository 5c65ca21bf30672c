package tidy_test

import (
	"math/rand"
	"slices"
	"strings"
	"testing"

	"wisp/api"
	"wisp/sources"
	"wisp/tidy"
	"wisp/tree"
	"wisp/trees"
)

func wantUsed(t *testing.T, what string, p api.Program, want ...string) {
	t.Helper()
	if got := tidy.Used(p); !slices.Equal(got, want) {
		t.Errorf("24.3: %s: Used = %q, want %q", what, got, want)
	}
}

func TestUsed(t *testing.T) { // 24.3
	for _, c := range []struct{ src, want string }{
		{": main ;", "main"},
		{"1 constant a 2 constant b variable v 3 buffer u : w ; : main ;", "main"},
		{"1 constant a 2 constant b variable v 3 buffer u : w ; : main u w b ;", "b u w main"},
		{"1 constant a : u a ; : w u ; : z w w ; : main z z ;", "a u w z main"},
		{"1 constant a : u a ; : w u ; : main ;", "main"},
		{": main ; : behind main ; 7 constant k : further behind k ;", "main"},
		{"1 constant a 2 constant b : w a ; : u b ; : main w ;", "a w main"},
		{"1 constant a 2 constant b 3 constant c 4 constant d 5 constant e 6 constant f 7 constant g 8 constant h 9 constant k : main if a else b then begin c until begin d while e repeat do f loop begin begin if g then again again h ;", "a b c d e f g h main"},
		{"1 constant a 2 constant b : main halt a exit b ;", "a b main"},
		{": a ; : b ; : main b a b a ;", "a b main"},
		{"1 constant dupe : main dup ;", "main"},
	} {
		wantUsed(t, c.src, parsed(t, c.src), strings.Fields(c.want)...)
	}
}

func TestUsedOfWhatMayNotBe(t *testing.T) { // 24.3: none
	for _, x := range trees.Wrong() {
		wantUsed(t, x.What, x.Program)
	}
	twice := trees.Program(trees.Word("w"), trees.Word("w"), trees.Word("main", api.Node{Kind: nodeCall, Name: "w"}))
	wantUsed(t, "two definitions of one name", twice)
	wantUsed(t, "two of main", trees.Program(trees.Word("main"), trees.Word("main")))
	// What is not typable, or has no room, may be.
	wantUsed(t, "not typable", parsed(t, ": w r> ; : main w drop ;"), "w", "main")
	for _, x := range trees.Full() {
		wantUsed(t, x.What, x.Program, "main")
	}
}

// modelUsed is a plain reading of 24.3: names are added as long as there are more.
func modelUsed(p api.Program) []string {
	if tree.Check(p) != fine {
		return nil
	}
	led := map[string]int{"main": 1}
	for before := 0; before < len(led); {
		before = len(led)
		for _, d := range p.Defs {
			if led[d.Name] == 0 {
				continue
			}
			trees.Each(d.Body, func(n *api.Node) {
				if n.Kind == nodeCall {
					led[n.Name] = 1
				}
			})
		}
	}
	var names []string
	for _, d := range p.Defs {
		if led[d.Name] == 1 {
			names = append(names, d.Name)
		}
	}
	return names
}

func TestUsedOfDrawn(t *testing.T) { // 24.3
	t.Parallel()
	r := rand.New(rand.NewSource(2403))
	more := 0
	for range 1500 {
		p := parsed(t, sources.New(r).Some())
		want := modelUsed(p)
		wantUsed(t, "a drawn program", p, want...)
		if len(want) > 1 {
			more++
		}
	}
	if more < 250 {
		t.Errorf("of %d main leads to others", more)
	}
}
