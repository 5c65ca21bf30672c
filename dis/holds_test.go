package dis_test

import (
	"bytes"
	"math/rand"
	"reflect"
	"slices"
	"strings"
	"sync"
	"testing"

	"wisp/api"
	"wisp/carts"
	"wisp/comp"
	"wisp/dis"
	"wisp/emit"
	"wisp/sources"
	"wisp/spare"
	"wisp/tree"
	"wisp/trees"
)

// wantBack asks that a program comes back from its cartridge (P23.5), and what comes back from its own as itself.
func wantBack(t *testing.T, what string, p api.Program) {
	t.Helper()
	c, e := emit.Cart(p)
	if e != fine {
		t.Fatalf("the tests' own %.200q: %d", what, e)
	}
	want := back(t, p)
	wantAnswer(t, what, c, want)
	d, e := emit.Cart(want)
	if e != fine {
		t.Fatalf("P23.5: %s: the program that comes back: %d", what, e)
	}
	wantAnswer(t, what, d, want)
}

// wantSourceBack asks the same of a source's image.
func wantSourceBack(t *testing.T, src string) {
	t.Helper()
	p := parsed(t, src)
	wantAnswer(t, src, cartOf(t, src), back(t, p))
	wantBack(t, src, p)
}

func TestDrawnSourcesComeBack(t *testing.T) { // P23.5, W10: of all sorts, typable ones, and some that are changed
	t.Parallel()
	r := rand.New(rand.NewSource(2305))
	compiled := func(src string) bool {
		_, _, e := comp.Compile(src)
		return e == fine
	}
	for range 1500 {
		wantSourceBack(t, sources.New(r).Some())
		wantSourceBack(t, sources.Any(r, compiled))
		wantSourceBack(t, sources.Dressed(r, strings.Fields(sources.New(r).Some())...))
	}
	for _, src := range sources.Typable() {
		wantSourceBack(t, src)
	}
}

func TestDrawnCode(t *testing.T) { // P23.2, P23.4, P23.6: cartridges of all sorts, whoever has made them
	t.Parallel()
	r := rand.New(rand.NewSource(2306))
	answered := 0
	for range 8000 {
		if wantAsModel(t, "a drawn cartridge", carts.Any(r)) {
			answered++
		}
	}
	if answered < 50 {
		t.Errorf("%d were answered", answered)
	}
}

// slipped is a source's code, some cells of which are one more or less, another's, an address in it or a thread, or are taken out or put in.
func slipped(r *rand.Rand, c api.Cart) api.Cart {
	cells := cellsOf(c.Code)
	for range 1 + r.Intn(3) {
		at := 64 + r.Intn(len(cells)-64)
		if r.Intn(40) == 0 {
			at = r.Intn(64)
		}
		switch r.Intn(6) {
		case 0:
			cells[at] += 2*r.Intn(5) - 4
		case 1:
			cells[at] = cells[64+r.Intn(len(cells)-64)]
		case 2:
			cells[at] = 128 + 2*r.Intn(len(cells)-60)
		case 3:
			cells[at] = 2 * (3 + r.Intn(61))
		case 4:
			cells = slices.Insert(cells, at, 2*(3+r.Intn(61)))
		default:
			if len(cells) > 66 {
				cells = slices.Delete(cells, at, at+1)
			}
		}
	}
	c.Code = nil
	for _, x := range cells {
		c.Code = append(c.Code, carts.Code(uint16(x))...)
	}
	return c
}

func TestDrawnCodeOfSources(t *testing.T) { // P23.2, P23.4, P23.6: with some cells changed
	t.Parallel()
	r := rand.New(rand.NewSource(2316))
	answered, refused := 0, 0
	for range 1500 {
		c := cartOf(t, sources.New(r).Some())
		for range 6 {
			d := slipped(r, c)
			if r.Intn(20) == 0 {
				d.Entry += uint16(2*r.Intn(9)) - 8
			}
			if wantAsModel(t, "a source's code with some cells changed", d) {
				answered++
			} else {
				refused++
			}
		}
	}
	if answered < 1000 || refused < 3000 {
		t.Errorf("%d were answered, %d refused", answered, refused)
	}
}

// jumping is a body of a few instructions, most of which branch to where one is.
func jumping(r *rand.Rand) []uint16 {
	var cells []uint16
	var open []int
	starts := []uint16{130}
	for range r.Intn(9) {
		switch x := []uint16{18, 16, 12, 8, 8, 10, 10, 10, 14, 14}[r.Intn(10)]; x {
		case 8, 10, 14:
			open = append(open, len(cells)+1)
			cells = append(cells, x, 0)
		default:
			cells = append(cells, x)
		}
		starts = append(starts, uint16(130+2*len(cells)))
	}
	for _, at := range open {
		cells[at] = starts[r.Intn(len(starts))]
	}
	return cells
}

func TestDrawnBranches(t *testing.T) { // P23.2, P23.4: most come to no program
	t.Parallel()
	r := rand.New(rand.NewSource(2326))
	answered := 0
	for range 60000 {
		if wantAsModel(t, "a drawn body", at128(append(append([]uint16{1}, jumping(r)...), 16)...)) {
			answered++
		}
	}
	if answered < 3000 {
		t.Errorf("%d were answered", answered)
	}
}

func TestNoise(t *testing.T) { // P23.2, R1: whatever bytes
	t.Parallel()
	r := rand.New(rand.NewSource(2336))
	for range 3000 {
		b := make([]byte, r.Intn(300))
		r.Read(b)
		wantAsModel(t, "noise", api.Cart{Code: b, Entry: uint16(r.Intn(300))})
		for i := range b {
			b[i] %= []byte{160, 1}[i%2]
		}
		behind := append(carts.Code(carts.Threads()...), b...)
		wantAsModel(t, "noise behind the threads", api.Cart{Code: behind, Entry: 128})
		wantListing(t, "noise", api.Cart{Code: behind, Entry: 128})
	}
}

// anyCart is one of those that are drawn here, some with banks and with effects.
func anyCart(t *testing.T, r *rand.Rand) api.Cart {
	t.Helper()
	c := cartOf(t, sources.New(r).Some())
	switch r.Intn(4) {
	case 0:
		c = slipped(r, c)
	case 1:
		c = carts.Any(r)
	}
	return c
}

func TestTheCartridgeStays(t *testing.T) { // R3, R5: spare room too; what lies there does not matter, and nothing is kept
	r := rand.New(rand.NewSource(2341))
	for range 1500 {
		plain := anyCart(t, r)
		wantP, wantE := dis.Program(plain)
		wantS, wantV := dis.Listing(plain)
		c := spare.Cart(plain)
		before := spare.WholeCart(c)
		p, e := dis.Program(c)
		s, v := dis.Listing(c)
		if !reflect.DeepEqual(spare.WholeCart(c), before) {
			t.Fatalf("R3: %v: the cartridge has changed", plain)
		}
		if e != wantE || !reflect.DeepEqual(p, wantP) || s != wantS || v != wantV {
			t.Fatalf("R5: %v: with room behind the lists: %v, %d, %q, %v", plain, p, e, s, v)
		}
		spare.Over(c.Code, 99)
		for i := range c.Banks {
			spare.Over(c.Banks[i].Data, 99)
		}
		spare.Over(c.Banks, api.Bank{Num: 99})
		if !reflect.DeepEqual(p, wantP) || s != wantS {
			t.Fatalf("R3: %v: with the cartridge written over: %v", plain, p)
		}
	}
}

// nodeLists are all lists of nodes of a program.
func nodeLists(p api.Program) []*[]api.Node {
	var all []*[]api.Node
	for i := range p.Defs {
		all = append(all, &p.Defs[i].Body)
		trees.Each(p.Defs[i].Body, func(n *api.Node) { all = append(all, &n.Then, &n.Else) })
	}
	return all
}

// overList writes over one list of a program, its room too; false: there are not so many.
func overList(p *api.Program, which int) bool {
	nodes := nodeLists(*p)
	switch which -= len(nodes); {
	case which < 0:
		spare.Over(*nodes[which+len(nodes)], api.Node{Kind: 99, Name: "over"})
	case which < len(p.Banks):
		spare.Over(p.Banks[which].Data, 99)
	case which == len(p.Banks):
		spare.Over(p.Banks, api.Bank{Num: 99})
	case which == len(p.Banks)+1:
		spare.Over(p.Defs, api.Def{Kind: 99, Name: "over"})
	default:
		return false
	}
	return true
}

// deepCopy shares nothing with a program; the room behind its lists is not in it.
func deepCopy(p api.Program) api.Program {
	p.Defs, p.Banks = slices.Clone(p.Defs), slices.Clone(p.Banks)
	for i := range p.Defs {
		p.Defs[i].Body = deepNodes(p.Defs[i].Body)
	}
	for i := range p.Banks {
		p.Banks[i].Data = slices.Clone(p.Banks[i].Data)
	}
	return p
}

func deepNodes(list []api.Node) []api.Node {
	list = slices.Clone(list)
	for i := range list {
		list[i].Then, list[i].Else = deepNodes(list[i].Then), deepNodes(list[i].Else)
	}
	return list
}

func TestProgramsAreApart(t *testing.T) { // R3: from another answer, from the cartridge, and the lists of one answer from one another
	r := rand.New(rand.NewSource(2342))
	for range 400 {
		c := cartOf(t, sources.New(r).Some())
		before := deepCart(c)
		want, e := dis.Program(c)
		if e != fine {
			t.Fatalf("P23.5: %d", e)
		}
		kept := deepCopy(want)
		for which := 0; ; which++ {
			one, _ := dis.Program(c)
			left := deepCopy(one)
			if !overList(&one, which) {
				break
			}
			overList(&left, which)
			if !reflect.DeepEqual(one, left) || !reflect.DeepEqual(want, kept) || !reflect.DeepEqual(c, before) {
				t.Fatalf("R3: %v: with list %d written over: %v, want %v", c, which, one, left)
			}
		}
		if again, _ := dis.Program(c); !reflect.DeepEqual(again, kept) {
			t.Fatalf("R5: %v: behind answers that were written over: %v, want %v", c, again, kept)
		}
	}
}

func deepCart(c api.Cart) api.Cart {
	c.Code, c.Effects, c.Banks = slices.Clone(c.Code), slices.Clone(c.Effects), slices.Clone(c.Banks)
	for i := range c.Banks {
		c.Banks[i].Data = slices.Clone(c.Banks[i].Data)
	}
	return c
}

func TestEmptyListsAreOne(t *testing.T) { // R4: nil or not
	for _, c := range []api.Cart{{}, {Code: []byte{}, Effects: []api.Effect{}, Banks: []api.Bank{}}} {
		wantNone(t, "no code", c)
		if s, v := dis.Listing(c); s != "" || v != (api.Verdict{Err: badCall}) {
			t.Errorf("P23.1: no code: %q, %v", s, v)
		}
	}
	for _, data := range [][]byte{nil, {}} {
		c := at128(1, 16)
		c.Banks = []api.Bank{{Num: 1, Data: data}}
		wantText(t, "an empty bank", c, ": main ; 1 bank { }")
	}
}

func TestAtOnce(t *testing.T) { // R5: the answers hang on nothing that other calls do at the same time
	c := cartOf(t, whole)
	want, _ := dis.Program(c)
	lines, _ := dis.Listing(c)
	cut := c
	cut.Code = c.Code[:len(c.Code)-2]
	var all sync.WaitGroup
	for range 16 {
		all.Go(func() {
			for range 40 {
				if p, e := dis.Program(c); e != fine || !tree.Same(p, want) {
					t.Errorf("R5: Program: %d", e)
				}
				if s, v := dis.Listing(c); s != lines || v != (api.Verdict{}) {
					t.Errorf("R5: Listing: %v", v)
				}
				if _, e := dis.Program(cut); e != badShape {
					t.Errorf("R5: Program of code that is cut: %d", e)
				}
			}
		})
	}
	all.Wait()
	if code, e := emit.Code(want); e != fine || !bytes.Equal(code, c.Code) {
		t.Errorf("P23.6: %d", e)
	}
}
