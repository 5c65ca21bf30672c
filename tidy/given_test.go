package tidy_test

import (
	"math/rand"
	"reflect"
	"slices"
	"sync"
	"testing"

	"wisp/api"
	"wisp/spare"
	"wisp/tidy"
	"wisp/tree"
	"wisp/trees"
)

// some draws a typable program, for the most part, and one of nodes of all sorts else.
func some(t *testing.T, r *rand.Rand) api.Program {
	t.Helper()
	if r.Intn(3) > 0 {
		return drawn(t, r, map[string]int{})
	}
	d := drawer{Rand: r, numbers: []uint16{0, 1, 7}, junk: true, odd: true}
	return trees.Program(trees.Word("main", d.list(8, 3)...))
}

// answers are those of all three calls.
type answers struct {
	program api.Program
	e       api.Errno
	used    []string
	bodies  [][]api.Node
}

func answersOf(p api.Program) answers {
	var a answers
	a.program, a.e = tidy.Program(p)
	a.used = tidy.Used(p)
	for _, d := range p.Defs {
		a.bodies = append(a.bodies, tidy.Body(d.Body))
	}
	return a
}

// deepNodes is a list that shares nothing with another; the room behind it is not in it.
func deepNodes(list []api.Node) []api.Node {
	list = slices.Clone(list)
	for i := range list {
		list[i].Then, list[i].Else = deepNodes(list[i].Then), deepNodes(list[i].Else)
	}
	return list
}

func deepProgram(p api.Program) api.Program {
	p.Defs, p.Banks = slices.Clone(p.Defs), slices.Clone(p.Banks)
	for i := range p.Defs {
		p.Defs[i].Body = deepNodes(p.Defs[i].Body)
	}
	for i := range p.Banks {
		p.Banks[i].Data = slices.Clone(p.Banks[i].Data)
	}
	return p
}

func (a answers) copied() answers {
	a.program, a.used, a.bodies = deepProgram(a.program), slices.Clone(a.used), slices.Clone(a.bodies)
	for i := range a.bodies {
		a.bodies[i] = deepNodes(a.bodies[i])
	}
	return a
}

// lists are all lists of nodes in an answer, or in what was handed in.
func lists(p api.Program, bodies [][]api.Node) []*[]api.Node {
	var all []*[]api.Node
	add := func(list *[]api.Node) {
		all = append(all, list)
		trees.Each(*list, func(n *api.Node) { all = append(all, &n.Then, &n.Else) })
	}
	for i := range p.Defs {
		add(&p.Defs[i].Body)
	}
	for i := range bodies {
		add(&bodies[i])
	}
	return all
}

// over writes over one list, its room too; false: there are not so many.
func over(p *api.Program, bodies [][]api.Node, which int) bool {
	nodes := lists(*p, bodies)
	switch which -= len(nodes); {
	case which < 0:
		spare.Over(*nodes[which+len(nodes)], api.Node{Kind: 99, Name: "over"})
	case which < len(p.Banks):
		spare.Over(p.Banks[which].Data, 99)
	case which == len(p.Banks):
		spare.Over(p.Banks, api.Bank{Num: 99})
	case which == len(p.Banks)+1:
		spare.Over(p.Defs, api.Def{Kind: 99, Name: "over"})
	default:
		return false
	}
	return true
}

func TestWhatIsHandedInStays(t *testing.T) { // R3, R5: spare room too; what lies there does not matter, and nothing is kept
	t.Parallel()
	r := rand.New(rand.NewSource(2460))
	for range 300 {
		given := some(t, r)
		want := answersOf(given).copied()
		p := spare.Program(given)
		before := spare.Whole(p)
		got := answersOf(p)
		if !reflect.DeepEqual(spare.Whole(p), before) {
			t.Fatalf("R3: %s: the program has changed", text(given))
		}
		if !reflect.DeepEqual(got, want) {
			t.Fatalf("R5: %s: with room behind the lists: %v, want %v", text(given), got, want)
		}
		for which := range lists(p, nil) {
			over(&p, nil, which)
		}
		for i := range p.Banks {
			spare.Over(p.Banks[i].Data, 99)
		}
		spare.Over(p.Banks, api.Bank{Num: 99})
		spare.Over(p.Defs, api.Def{Kind: 99})
		if !reflect.DeepEqual(got, want) {
			t.Fatalf("R3: %s: with the program written over: %v", text(given), got)
		}
	}
}

func TestAnswersAreApart(t *testing.T) { // R3: from another answer, from what was handed in, and the lists of one answer from one another
	t.Parallel()
	r := rand.New(rand.NewSource(2461))
	for range 15 {
		p := spare.Program(some(t, r))
		before := spare.Whole(p)
		want := answersOf(p)
		kept := want.copied()
		for which := 0; ; which++ {
			one := answersOf(p)
			left := one.copied()
			if !over(&one.program, one.bodies, which) {
				break
			}
			over(&left.program, left.bodies, which)
			if !reflect.DeepEqual(one, left) || !reflect.DeepEqual(want, kept) || !reflect.DeepEqual(spare.Whole(p), before) {
				t.Fatalf("R3: %s: with list %d written over: %v, want %v", text(p), which, one, left)
			}
		}
		spare.Over(want.used, "over")
		if again := answersOf(p); !reflect.DeepEqual(again, kept) {
			t.Fatalf("R5: %s: behind answers that were written over: %v, want %v", text(p), again, kept)
		}
	}
}

func TestRoomOfListsWithoutElements(t *testing.T) { // R3, R4: it is not handed out
	empty := func() []api.Node { return spare.Given([]api.Node{}, api.Node{Kind: 77}) }
	leaf := func(n api.Node) api.Node { n.Then, n.Else = empty(), empty(); return n }
	p := api.Program{
		Defs: []api.Def{
			{Kind: 3, Name: "v", Value: 2, Body: empty()},
			{Kind: 2, Name: "k", Value: 7, Body: empty()},
			{Kind: 1, Name: "none", Body: empty()},
			{Kind: 1, Name: "one", Body: []api.Node{leaf(api.Node{Kind: nodePrim, Op: opYield})}},
			{Kind: 1, Name: "con", Body: []api.Node{leaf(api.Node{Kind: nodeCall, Name: "k"})}},
			{Kind: 1, Name: "main", Body: []api.Node{
				leaf(api.Node{Kind: nodeCall, Name: "none"}), leaf(api.Node{Kind: nodeCall, Name: "one"}), leaf(api.Node{Kind: nodeCall, Name: "one"}),
				leaf(api.Node{Kind: nodeCall, Name: "con"}), {Kind: nodeIf, Then: empty(), Else: []api.Node{leaf(api.Node{Kind: nodePrim, Op: opYield})}, Has: true},
				{Kind: nodeAgain, Then: empty(), Else: empty()},
			}},
		},
		Banks: []api.Bank{{Num: 1, Data: spare.Given([]byte{}, 77)}},
	}
	before := spare.Whole(p)
	for _, list := range []answers{answersOf(p), answersOf(p)} {
		for which := 0; over(&list.program, list.bodies, which); which++ {
			if !reflect.DeepEqual(spare.Whole(p), before) {
				t.Fatalf("R3: with list %d written over: %v", which, p)
			}
		}
	}
	wantProgram(t, "R4", ": none ; 7 constant k : con k ; : one yield ; : main none one one con if else yield then begin again ; 1 bank { }",
		"7 constant k", ": main yield yield k if else yield then begin again ;", "1 bank { }")
	q, e := tidy.Program(p)
	if e != fine || !tree.Same(q, parsed(t, "variable v 7 constant k : main yield yield k if else yield then begin again ; 1 bank { }")) {
		t.Errorf("R4: %v, %d", q, e)
	}
}

func TestErrorsHandOutNothing(t *testing.T) { // R2, R3: and change nothing
	for _, x := range trees.Wrong() {
		p := spare.Program(x.Program)
		before := spare.Whole(p)
		got := answersOf(p)
		if !reflect.DeepEqual(spare.Whole(p), before) || got.e != x.Err || !reflect.DeepEqual(got.program, api.Program{}) || len(got.used) > 0 {
			t.Errorf("R2: %s: %v", x.What, got)
		}
	}
}

func TestAtOnce(t *testing.T) { // R5: the answers hang on nothing that other calls do at the same time
	p := drawn(t, rand.New(rand.NewSource(2462)), map[string]int{})
	want := answersOf(p)
	var all sync.WaitGroup
	for range 16 {
		all.Go(func() {
			for range 20 {
				if got := answersOf(p); !reflect.DeepEqual(got, want) {
					t.Errorf("R5: %v, want %v", got, want)
				}
			}
		})
	}
	all.Wait()
}
