package emit_test

import (
	"bytes"
	"reflect"
	"slices"
	"strings"
	"testing"

	"wisp/api"
	"wisp/cart"
	"wisp/effect"
	"wisp/emit"
	"wisp/layout"
	"wisp/spare"
	"wisp/tree"
	"wisp/trees"
	"wisp/vm"
)

// alike tells whether two cartridges are the same: a list without elements may be nil or not.
func alike(a, b api.Cart) bool {
	return a.Entry == b.Entry && bytes.Equal(a.Code, b.Code) && slices.Equal(a.Effects, b.Effects) &&
		slices.EqualFunc(a.Banks, b.Banks, func(x, y api.Bank) bool { return x.Num == y.Num && bytes.Equal(x.Data, y.Data) })
}

// cloned is a cartridge that shares nothing with another.
func cloned(c api.Cart) api.Cart {
	c.Code, c.Effects, c.Banks = slices.Clone(c.Code), slices.Clone(c.Effects), slices.Clone(c.Banks)
	for i := range c.Banks {
		c.Banks[i].Data = slices.Clone(c.Banks[i].Data)
	}
	return c
}

func TestAnyProgram(t *testing.T) { // 13.1 to 13.4: cell by cell, and effect by effect
	m := makerOf(1301)
	with, without, never := 0, 0, 0
	for range 1500 {
		src := m.Some()
		p := taken(t, src)
		wantBytes(t, src, p, cellsOf(t, &m.Writer))
		shapes, e := effect.Shapes(p)
		places, _, _, _, f := layout.Of(p)
		if e != fine || f != fine {
			t.Fatalf("%s: %d, %d", src, e, f)
		}
		var want []api.Effect
		for _, x := range places {
			i := slices.IndexFunc(shapes, func(y effect.Typed) bool { return y.Name == x.Name })
			switch {
			case i < 0:
			case shapes[i].Err != fine:
				without++
			default:
				with++
				if shapes[i].Shape.Never {
					never++
				}
				want = append(want, api.Effect{At: x.At, In: shapes[i].Shape.In, Out: shapes[i].Shape.Out})
			}
		}
		c, e := emit.Cart(p)
		if e != fine || !slices.Equal(c.Effects, want) {
			t.Fatalf("13.3: %s: Effects %v, %d, want %v", src, c.Effects, e, want)
		}
		image, e := cart.Encode(c)
		back, f := cart.Decode(image)
		if e != fine || f != fine || !alike(back, c) {
			t.Fatalf("13.3: %s: %d, %d: %v comes back as %v", src, e, f, c, back)
		}
	}
	if with < 1500 || without < 500 || never < 100 {
		t.Errorf("%d words with a shape, %d of which never return, %d without", with, never, without)
	}
}

func emptied(list []api.Node) []api.Node {
	if len(list) > 0 {
		return list
	}
	if list == nil {
		return []api.Node{}
	}
	return nil
}

func TestSameProgramsHaveTheSameCartridge(t *testing.T) { // 13.4, R4: other places, another layout of the text, lists without elements
	m := makerOf(1304)
	for range 400 {
		src := m.Some()
		p, moved := taken(t, src), taken(t, src)
		spread := taken(t, " ( a remark )\n"+strings.ReplaceAll(src, " ", "\n  ")+"\n")
		for i := range moved.Defs {
			d := &moved.Defs[i]
			d.Pos = api.Pos{Line: m.Intn(9), Col: -m.Intn(9)}
			d.Body = emptied(d.Body)
			trees.Each(d.Body, func(n *api.Node) {
				n.Pos = api.Pos{Line: m.Intn(9)}
				n.Then, n.Else = emptied(n.Then), emptied(n.Else)
			})
		}
		for i := range moved.Banks {
			if len(moved.Banks[i].Data) == 0 {
				moved.Banks[i].Data = []byte{}
			}
		}
		want, e := emit.Cart(p)
		for _, q := range []api.Program{moved, spread} {
			if !tree.Same(p, q) {
				t.Fatalf("the tests' own %s and %v", src, q)
			}
			got, f := emit.Cart(q)
			if e != fine || f != fine || !alike(got, want) {
				t.Fatalf("13.4: %s: %v, %d, want %v, %d", src, got, f, want, e)
			}
		}
	}
}

func TestFirstDefinitions(t *testing.T) { // 13.5: for each number of them that has main among them
	m := makerOf(1305)
	shorter := 0
	for range 400 {
		src := m.Some()
		p := taken(t, src)
		whole, e := emit.Code(p)
		c, f := emit.Cart(p)
		if e != fine || f != fine {
			t.Fatalf("%s: %d, %d", src, e, f)
		}
		main := slices.IndexFunc(p.Defs, func(d api.Def) bool { return d.Name == "main" })
		for many := main + 1; many <= len(p.Defs); many++ {
			q := api.Program{Defs: p.Defs[:many], Banks: p.Banks}
			b, e := emit.Code(q)
			if e != fine || !bytes.HasPrefix(whole, b) || many == len(p.Defs) && len(b) != len(whole) {
				t.Fatalf("13.5: %s: the first %d: %v, %d; all: %v", src, many, b, e, whole)
			}
			if many < len(p.Defs) {
				if len(b) >= len(whole) {
					t.Fatalf("13.5: %s: the first %d have %d bytes, all %d", src, many, len(b), len(whole))
				}
				shorter++
			}
			d, e := emit.Cart(q)
			if e != fine || d.Entry != c.Entry || len(d.Effects) > len(c.Effects) || !slices.Equal(d.Effects, c.Effects[:len(d.Effects)]) {
				t.Fatalf("13.5: %s: the first %d: %v, %d; all: %v", src, many, d, e, c)
			}
		}
		for many := range main + 1 {
			wantError(t, src, badMain, api.Program{Defs: p.Defs[:many], Banks: p.Banks})
		}
	}
	if shorter < 500 {
		t.Errorf("%d were shorter", shorter)
	}
}

func TestACartridgeRuns(t *testing.T) { // 13.1 to 13.3: on layer 8's machine each row does what its words say
	for src, want := range map[string]uint16{
		"1 if 7 else 8 then":                         7,
		"0 if 7 else 8 then":                         8,
		"5 1 if 1+ then":                             6,
		"5 0 if 1+ then":                             5,
		"0 begin 1+ dup 9 = until":                   9,
		"0 begin dup 12 < while 5 + repeat":          15,
		"0 begin 1+ dup 20 = if v ! exit then again": 20,
		"0 10 0 do i + loop":                         45,
		"0 3 0 do 4 0 do j 10 * i + + loop loop":     138,
		"0 5 0 do i 2 = if 100 else i then + loop":   108,
		"k w":       49,
		"b 3 + v -": 65535 - 1, // b lies five bytes ahead
		"0 4 0 do begin 1+ dup 3 umod 0= until loop":             12,
		"0 begin dup 100 < while dup if 3 * else 1+ then repeat": 243,
	} {
		whole := "7 constant k : w dup * ; 5 buffer b variable v : main " + src + " v ! ;"
		c, e := emit.Cart(taken(t, whole))
		machine, f := vm.New(c)
		if e != fine || f != fine {
			t.Fatalf("%s: %d, %d", whole, e, f)
		}
		out, e := machine.Frame(0, 16384)
		if got := machine.Memory().Cell(0x8005); e != fine || out.Status != 2 || got != want {
			t.Errorf("%s: status %d, fault %d, %d: v is %d, want %d", whole, out.Status, out.Fault, e, got, want)
		}
	}
}

func TestBanksAreThoseOfTheMachine(t *testing.T) { // 13.3
	c, e := emit.Cart(taken(t, "variable v : main 3 bank $4001 c@ v ! ; 3 bank { 7 8 9 } 5 bank { 1 }"))
	machine, f := vm.New(c)
	if e != fine || f != fine {
		t.Fatalf("%d, %d", e, f)
	}
	machine.Frame(0, 100)
	if got := machine.Memory().Cell(0x8000); got != 8 {
		t.Errorf("v is %d, want 8", got)
	}
}

func TestWhatIsHandedInStays(t *testing.T) { // R3, R5: spare room too; what lies there does not matter
	m := makerOf(1306)
	for i := range 300 {
		src := m.Some()
		p, plain := spare.Program(taken(t, src)), taken(t, src)
		if i%10 == 0 { // one that has an error
			p.Defs[0].Name, plain.Defs[0].Name = "if", "if"
		}
		before := spare.Whole(p)
		b, e := emit.Code(p)
		c, f := emit.Cart(p)
		if !reflect.DeepEqual(spare.Whole(p), before) {
			t.Fatalf("%s: the program has changed", src)
		}
		k, g := emit.Code(plain)
		d, h := emit.Cart(plain)
		if e != g || f != h || !bytes.Equal(b, k) || !alike(c, d) {
			t.Fatalf("%s: %v, %d; with room behind the lists: %v, %d", src, d, h, c, f)
		}
	}
}

func TestWhatIsHandedOutIsApart(t *testing.T) { // R3, R5: it may be written over, its room too, the banks too
	m := makerOf(1307)
	for range 200 {
		p := spare.Program(taken(t, m.Some()))
		p.Banks = spare.Program(api.Program{Banks: []api.Bank{{Num: 2, Data: []byte{1, 2}}, {Num: 4}, {Num: 5, Data: []byte{3}}}}).Banks
		before := spare.Whole(p)
		b, _ := emit.Code(p)
		code := slices.Clone(b)
		c, e := emit.Cart(p)
		want := cloned(c)
		other, _ := emit.Code(p)
		second, _ := emit.Cart(p)
		spare.Over(b, 99)
		spare.Over(c.Code, 99)
		spare.Over(c.Effects, api.Effect{At: 9, In: 9, Out: 9})
		for _, k := range c.Banks {
			spare.Over(k.Data, 99)
		}
		spare.Over(c.Banks, api.Bank{Num: 9, Data: []byte{9}})
		// Ahead of a third call, which could put right again what two answers share.
		if e != fine || !bytes.Equal(other, code) || !alike(second, want) || !reflect.DeepEqual(spare.Whole(p), before) {
			t.Fatalf("%v: with one answer written over another is %v, want %v, %d", p, second, want, e)
		}
		if third, f := emit.Cart(p); f != fine || !alike(third, want) {
			t.Fatalf("%v: behind an answer that was written over: %v, %d, want %v", p, third, f, want)
		}
	}
}

func TestListsOfOneAnswerAreApart(t *testing.T) { // R3: also where the program's banks are one list
	data := []byte{1, 2, 3, 4, 5, 6}
	p := taken(t, ": a drop ; : main 1 a ;")
	p.Banks = []api.Bank{{Num: 1, Data: data[:3]}, {Num: 2, Data: data}, {Num: 3, Data: data[:0]}, {Num: 4, Data: data[2:5]}}
	for i := range p.Banks {
		c, e := emit.Cart(p)
		want := cloned(c)
		spare.Over(c.Banks[i].Data, 99)
		want.Banks[i].Data = c.Banks[i].Data
		if e != fine || !alike(c, want) || !bytes.Equal(data, []byte{1, 2, 3, 4, 5, 6}) {
			t.Errorf("with bank %d written over: %v, %v, %d", i, c, data, e)
		}
	}
	for _, over := range []func(*api.Cart){
		func(c *api.Cart) { spare.Over(c.Code, 99) },
		func(c *api.Cart) { spare.Over(c.Effects, api.Effect{At: 9}) },
	} {
		c, _ := emit.Cart(p)
		want := cloned(c)
		over(&c)
		over(&want)
		if !alike(c, want) {
			t.Errorf("with one list written over: %v, want %v", c, want)
		}
	}
	// What is handed in may be written over likewise.
	c, _ := emit.Cart(p)
	want := cloned(c)
	spare.Over(data, 99)
	spare.Over(p.Defs[1].Body, api.Node{})
	spare.Over(p.Defs, api.Def{})
	spare.Over(p.Banks, api.Bank{})
	if !alike(c, want) {
		t.Errorf("with the program written over: %v, want %v", c, want)
	}
}

func TestLargePrograms(t *testing.T) { // R1: every call ends, in a time that the size bears
	wantError(t, "a long body", tooLong, trees.Program(trees.Word("main", trees.Prims(400000, nop)...)))
	wantError(t, "many definitions", tooMany, trees.Program(append(trees.Constants(20000), trees.Word("main"))...))
	wantError(t, "very deep", badDeep, trees.Program(trees.Word("main", trees.Within(1<<16, nodeDo)...)))
	nest := trees.Prims(1, nop)
	for range 12 { // each one twice in the next one: 4096 of the innermost
		nest = []api.Node{{Kind: nodeAgain, Then: nest}, {Kind: nodeUntil, Then: nest}}
	}
	wantError(t, "wide and deep", tooLong, trees.Program(trees.Word("main", nest...)))
}
