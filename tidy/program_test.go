package tidy_test

import (
	"slices"
	"strings"
	"testing"

	"wisp/api"
	"wisp/effect"
	"wisp/tidy"
	"wisp/tree"
	"wisp/trees"
)

func TestCallsOfWordsThatAreNextToNothing(t *testing.T) { // 24.4: step 1
	for _, c := range []struct{ src, want string }{
		// Without nodes.
		{": a ; : main a pad a a bank a ;", ": main pad bank ;"},
		{": a nop ; : main a pad bank ;", ": main pad bank ;"},
		{": a 7 drop ; : main pad a bank ;", ": main pad bank ;"},
		{": a exit ; : main pad a bank ;", ": main pad bank ;"},
		// One primitive.
		{": a yield ; : main a pad a bank a ;", ": main yield pad yield bank yield ;"},
		{": a dup ; : main pad a bank bank ;", ": main pad dup bank bank ;"},
		{": a 1 + ; : main pad a bank ;", ": main pad 1+ bank ;"},
		{": a yield exit ; : main a pad bank ;", ": main yield pad bank ;"},
		{": a halt yield ; : main a ;", ": main halt ;"},
		// One call: of a word, a constant, a variable.
		{": a pad bank ; : b a ; : main b yield b ;", ": a pad bank ;|: main a yield a ;"},
		{"7 constant k : a k ; : main a bank ;", "7 constant k|: main k bank ;"},
		{"variable v : a v ; : main a bank ;", "variable v|: main v bank ;"},
		{"7 buffer v : a nop v exit ; : main a bank ;", "7 buffer v|: main v bank ;"},
		// What is more than that, and what is another node.
		{": a 7 ; : main a bank ;", ": a 7 ;|: main a bank ;"},
		{": a pad bank ; : main a ;", ": a pad bank ;|: main a ;"},
		{": a begin yield again ; : main a ;", ": a begin yield again ;|: main a ;"},
		{": a if yield then ; : main pad a ;", ": a if yield then ;|: main pad a ;"},
		{": a do yield loop ; : main pad pad a ;", ": a do yield loop ;|: main pad pad a ;"},
		{": a begin pad until ; : main a ;", ": a begin pad until ;|: main a ;"},
		// In each list inside others.
		{": n ; : p yield ; : w pad bank ; : c w ; : main pad if n p c else p n c then begin c n p pad until begin n c p pad while p c n repeat 1 2 do c n p loop begin p n c again ;",
			": w pad bank ;|: main pad if yield w else yield w then begin w yield pad until begin w yield pad while yield w repeat 1 2 do w yield loop begin yield w again ;"},
		// Chains of such words.
		{": a ; : b a ; : c b a b ; : d c nop ; : main pad d bank ;", ": main pad bank ;"},
		{": a dup ; : b a ; : c nop b exit ; : d c ; : main pad d bank bank ;", ": main pad dup bank bank ;"},
		{": a pad bank ; : b a ; : c b ; : d c ; : main d d ;", ": a pad bank ;|: main a a ;"},
		{"7 constant k : a k ; : b a ; : c b ; : main c bank ;", "7 constant k|: main k bank ;"},
		{": a 1 ; : b a ; : c b b + ; : main c bank ;", ": a 1 ;|: c a a + ;|: main c bank ;"},
		// What comes in a call's place stands with its new neighbours.
		{": a dup ; : b drop ; : main pad a b bank ;", ": main pad bank ;"},
		{": a swap ; : main pad 7 a 5 a a bank bank bank ;", ": main pad 7 swap 5 bank bank bank ;"},
		{": a ; : main 7 a drop ;", ": main ;"},
		{": z 0= ; : main pad z z if yield then ;", ": main pad if yield then ;"},
		{": a ; : main pad if a then ;", ": main ;"},
		{": h halt ; : main h pad bank ;", ": main halt ;"},
	} {
		wantProgram(t, "24.4: step 1", c.src, strings.Split(c.want, "|")...)
	}
}

func TestPlacesOfWhatComesInACallsPlace(t *testing.T) { // 24.4: step 1
	p := parsed(t, ": a\n dup ; : b\n\n a ; : w pad bank ; : c\n w ; : main pad b\n b if c then drop bank ;")
	q, e := tidy.Program(p)
	main := p.Defs[len(p.Defs)-1]
	want := slices.Clone(main.Body)
	want[1] = prim("dup", main.Body[1].Pos)[0]
	want[2] = prim("dup", main.Body[2].Pos)[0]
	want[3].Then = []api.Node{{Kind: nodeCall, Name: "w", Pos: main.Body[3].Then[0].Pos}}
	if got := q.Defs[len(q.Defs)-1]; e != fine || len(q.Defs) != 2 || got.Pos != main.Pos || !same(got.Body, want) {
		t.Errorf("24.4: %+v, %d, want %+v", q, e, want)
	}
	if !same(q.Defs[0].Body, p.Defs[2].Body) || q.Defs[0].Pos != p.Defs[2].Pos {
		t.Errorf("24.4: a body at which nothing is to be done: %+v", q.Defs[0])
	}
}

func TestBodiesOfWords(t *testing.T) { // 24.4: step 2
	wantProgram(t, "24.4: step 2", ": w 2 3 + bank 7 7 bank bank ; : main w begin 1 while yield repeat ;", ": w 5 bank 7 dup bank bank ;", ": main w begin yield again ;")
}

func TestExitAtTheEnd(t *testing.T) { // 24.4: step 3
	for _, c := range []struct{ src, want string }{
		{": main exit ;", ": main ;"},
		{": main yield exit ;", ": main yield ;"},
		{": main yield exit exit pad bank exit ;", ": main yield ;"},
		{": w pad bank exit ; : main w w exit ;", ": w pad bank ;|: main w w ;"},
		{": main pad if exit then yield ;", ": main pad if exit then yield ;"},
		{": main pad if exit then ;", ": main pad if exit then ;"},
		{": main pad if exit else exit then ;", ": main pad if exit else exit then ;"},
		{": main begin exit again ;", ": main begin exit again ;"},
		{": main yield 1 if exit then ;", ": main yield ;"},
		{": main pad bank begin exit 1 until ;", ": main pad bank begin exit until ;"},
		// The exit of a word that is called is not the caller's.
		{": w exit ; : main w yield ;", ": main yield ;"},
	} {
		wantProgram(t, "24.4: step 3", c.src, strings.Split(c.want, "|")...)
	}
}

func TestWhatIsLeft(t *testing.T) { // 24.4: all variables, what is used, in their order, the banks
	for _, c := range []struct{ src, want string }{
		{"1 constant a variable u 2 constant b 3 buffer v : w pad bank ; : z pad bank ; 4 constant c : main w b bank ; 5 buffer t 6 constant d : y ;",
			"variable u|2 constant b|3 buffer v|: w pad bank ;|: main w b bank ;|5 buffer t"},
		// What nobody names any more.
		{"1 constant a : main a drop ;", "1 constant a|: main a drop ;"},
		{"1 constant a : main 0 if a bank then ;", ": main ;"},
		{"1 constant a : main exit a bank ;", ": main ;"},
		{"1 constant a : w a bank pad bank ; : main begin 0 until w ;", ": main begin again ;"},
		{"1 constant a variable v 2 constant b : w a b v ! bank ; : u w w ; : main 1 if else u then ;", "variable v|: main ;"},
		{"1 constant a : w a ; : u w ; : main u bank ;", "1 constant a|: main a bank ;"},
		// Words that have faults, where main does not lead to them.
		{": w r> ; : u if 1 then ; : main ; : z drop main ;", ": main ;"},
		// Banks in any order stand as Parse has them.
		{"9 bank { 1 2 } : main ; 0 bank { } 15 bank { 255 }", ": main ;|0 bank { }|9 bank { 1 2 }|15 bank { 255 }"},
	} {
		wantProgram(t, "24.4: what is left", c.src, strings.Split(c.want, "|")...)
	}
}

func TestTwoDefinitionsThatAreAlike(t *testing.T) { // 24.4: by their names
	wantProgram(t, "24.4", "1 constant a 1 constant b : w a bank pad bank ; : u b bank pad bank ; : main u ;", "1 constant b", ": u b bank pad bank ;", ": main u ;")
}

func TestErrorsOfTheForm(t *testing.T) { // those of tree.Check, ahead of those of effect.Typable
	met := map[api.Errno]int{}
	for _, x := range trees.Wrong() {
		met[x.Err]++
		wantRefused(t, x.What, x.Program, x.Err)
		p := x.Program
		p.Defs = append([]api.Def{trees.Word("untypable", prim("r>", api.Pos{})...)}, p.Defs...)
		for i, d := range p.Defs {
			if d.Kind == 1 && d.Name == "main" {
				p.Defs[i].Body = append(slices.Clone(d.Body), api.Node{Kind: nodeCall, Name: "untypable"})
			}
		}
		wantRefused(t, x.What+" of what is not typable", p, x.Err)
	}
	for _, e := range []api.Errno{100, 101, 102, 103, 106, 107, 108, 109} {
		if met[e] == 0 {
			t.Errorf("no program has the error %d", e)
		}
	}
	wantRefused(t, "nothing", api.Program{}, badMain)
}

func TestErrorsOfTyping(t *testing.T) { // those of effect.Typable
	for _, c := range []struct {
		src string
		e   api.Errno
	}{
		{": main drop ;", badEffect},
		{": main 1 ;", badEffect},
		{": main 1 drop drop ;", badEffect},
		{": main r> ;", badReturn},
		{": w >r ; : main 1 w ;", badReturn},
		{": main pad if 1 then ;", badJoin},
		{": w 0 if 1 then ; : main w ;", badJoin},
		{": main begin 1 again ;", badLoop},
		{": main " + strings.Repeat("1 ", 257) + strings.Repeat("drop ", 257) + ";", badDepth},
		// What tidying would take away is asked all the same.
		{": w r> ; : main 0 if w drop then ;", badReturn},
		{": w r> ; : main exit w ;", badReturn},
		{": main 1 if else drop then ;", badJoin},
		{": main begin 1 0 until ;", badLoop},
		{": main drop 1 drop ;", badEffect},
		{": w r> ; : main ;", fine},
		{": main exit drop ;", fine},
		{": main begin again drop ;", fine},
	} {
		p := parsed(t, c.src)
		if e, _ := effect.Typable(p); e != c.e {
			t.Fatalf("the tests' own %s: %d", c.src, e)
		}
		if c.e != fine {
			wantRefused(t, c.src, p, c.e)
		} else if q, e := tidy.Program(p); e != fine || tree.Check(q) != fine {
			t.Errorf("24.4: %s: %d", c.src, e)
		}
	}
}

func TestNoLimitOfTheRoom(t *testing.T) { // 24.4: there are no errors but those
	for _, x := range trees.Full() {
		if e, _ := effect.Typable(x.Program); e != fine {
			continue
		}
		if q, e := tidy.Program(x.Program); e != fine || tree.Check(q) != fine {
			t.Errorf("24.4: %s: %d", x.What, e)
		}
	}
}
