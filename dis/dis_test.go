package dis_test

import (
	"bytes"
	"slices"
	"testing"

	"wisp/api"
	"wisp/cart"
	"wisp/carts"
	"wisp/comp"
	"wisp/dis"
	"wisp/emit"
	"wisp/layout"
	"wisp/tree"
)

// Errors by the document's numbers, not by api's names: a slip in one of the two must show.
const (
	fine      = api.Errno(0)
	badCart   = api.Errno(74)
	badTarget = api.Errno(160)
	badOpcode = api.Errno(161)
	badFall   = api.Errno(162)
	badCall   = api.Errno(163)
	badShape  = api.Errno(230)
)

// cartOf is the cartridge of a source.
func cartOf(t *testing.T, src string) api.Cart {
	t.Helper()
	image, at, e := comp.Compile(src)
	c, f := cart.Decode(image)
	if e != fine || f != fine {
		t.Fatalf("the tests' own %.200q: %d at %v, %d", src, e, at, f)
	}
	return c
}

// parsed is the program of a source.
func parsed(t *testing.T, src string) api.Program {
	t.Helper()
	p, at, e := tree.Parse(src)
	if e != fine {
		t.Fatalf("the tests' own %.200q: %d at %v", src, e, at)
	}
	return p
}

// at128 is the cartridge of the examples with the entry 128.
func at128(cells ...uint16) api.Cart { return carts.Of(128, cells...) }

// placeless tells whether all places are zero.
func placeless(p api.Program) bool {
	return !slices.ContainsFunc(p.Defs, func(d api.Def) bool { return d.Pos != api.Pos{} || placed(d.Body) })
}

func placed(list []api.Node) bool {
	return slices.ContainsFunc(list, func(n api.Node) bool { return n.Pos != api.Pos{} || placed(n.Then) || placed(n.Else) })
}

// wantAnswer asks for just that program, without places; that tree.Check takes it; and that its cartridge has this code and this entry (P23.2, P23.6).
func wantAnswer(t *testing.T, what string, c api.Cart, want api.Program) {
	t.Helper()
	p, e := dis.Program(c)
	if e != fine || !tree.Same(p, want) || !placeless(p) {
		t.Fatalf("P23.2: %s: Program = %v, %d, want %v", what, p, e, want)
	}
	wantHolds(t, what, c, p)
}

func wantHolds(t *testing.T, what string, c api.Cart, p api.Program) {
	t.Helper()
	d, e := emit.Cart(p)
	if f := tree.Check(p); e != fine || f != fine || !bytes.Equal(d.Code, c.Code) || d.Entry != c.Entry {
		t.Fatalf("P23.6: %s: the program %v: %d, %d, or another code", what, p, e, f)
	}
}

// wantText asks for the program that has this text.
func wantText(t *testing.T, what string, c api.Cart, src string) {
	t.Helper()
	wantAnswer(t, what, c, parsed(t, src))
}

// wantNone asks for ErrShape, and for no program beside it.
func wantNone(t *testing.T, what string, c api.Cart) {
	t.Helper()
	if p, e := dis.Program(c); e != badShape || len(p.Defs) > 0 || len(p.Banks) > 0 {
		t.Fatalf("P23.2: %s: Program = %v, %d, want %d", what, p, e, badShape)
	}
}

// wantItself asks that a source with main alone comes back as it is.
func wantItself(t *testing.T, src string) {
	t.Helper()
	wantText(t, src, cartOf(t, src), src)
}

// wantLines asks for a listing.
func wantLines(t *testing.T, what string, c api.Cart, want string) {
	t.Helper()
	if s, v := dis.Listing(c); s != want || v != (api.Verdict{}) {
		t.Errorf("P23.1: %s: Listing = %q, %v, want %q", what, s, v, want)
	}
}

// back is a program as P23.3 and P23.5 say that it comes back.
func back(t *testing.T, p api.Program) api.Program {
	t.Helper()
	places, _, _, _, e := layout.Of(p)
	if e != fine {
		t.Fatalf("the tests' own program: %d", e)
	}
	names := map[string]string{}
	q := api.Program{Banks: p.Banks}
	for i, d := range p.Defs {
		at := four(places[i].At)
		switch {
		case d.Kind == 1 && d.Name == "main":
			names[d.Name] = "main"
		case d.Kind == 1:
			names[d.Name] = "w" + at
		default:
			names[d.Name] = "k" + at
		}
		if d.Kind == 3 {
			d.Value = places[i].Ram
		}
		if d.Kind != 1 {
			d.Kind = 2
		}
		d.Name, d.Pos, d.Body = names[d.Name], api.Pos{}, renamed(d.Body, names)
		q.Defs = append(q.Defs, d)
	}
	return q
}

// renamed is nodes without places, that call by other names.
func renamed(list []api.Node, names map[string]string) []api.Node {
	list = slices.Clone(list)
	for i := range list {
		n := &list[i]
		n.Pos, n.Name = api.Pos{}, names[n.Name]
		n.Then, n.Else = renamed(n.Then, names), renamed(n.Else, names)
	}
	return list
}

// four are an address's digits, one by one.
func four(at uint16) string {
	const all = "0123456789abcdef"
	return string([]byte{all[at>>12], all[at>>8&15], all[at>>4&15], all[at&15]})
}

func TestExamples(t *testing.T) {
	// 1
	first := cartOf(t, ": main 7 dup + ;")
	wantLines(t, "example 1", first, "0080 :\n  0082 lit 7\n  0086 dup\n  0088 +\n  008a exit\n")
	wantAnswer(t, "example 1", first, api.Program{Defs: []api.Def{{Kind: 1, Name: "main", Body: []api.Node{{Kind: 2, Value: 7}, {Kind: 1, Op: 12}, {Kind: 1, Op: 21}}}}})
	// 2
	wantAnswer(t, "example 2", cartOf(t, ": sq dup * ; : main 3 sq if 1 else then ;"), api.Program{Defs: []api.Def{
		{Kind: 1, Name: "w0080", Body: []api.Node{{Kind: 1, Op: 12}, {Kind: 1, Op: 23}}},
		{Kind: 1, Name: "main", Body: []api.Node{{Kind: 2, Value: 3}, {Kind: 3, Name: "w0080"}, {Kind: 4, Then: []api.Node{{Kind: 2, Value: 1}}, Has: true}}},
	}})
	// 3
	wantAnswer(t, "example 3", cartOf(t, "variable v : main v @ drop ;"), api.Program{Defs: []api.Def{
		{Kind: 2, Name: "k0080", Value: 32768},
		{Kind: 1, Name: "main", Body: []api.Node{{Kind: 3, Name: "k0080"}, {Kind: 1, Op: 50}, {Kind: 1, Op: 13}}},
	}})
	// 4
	for cell := range 64 {
		c := at128(1, 16)
		c.Code[2*cell]++
		wantNone(t, "example 4: other threads", c)
	}
	wantNone(t, "example 4: a last instruction that is no exit", at128(1, 24))
	wantAnswer(t, "example 4: a branch to itself", at128(1, 8, 130, 16), api.Program{Defs: []api.Def{{Kind: 1, Name: "main", Body: []api.Node{{Kind: 7}}}}})
}
