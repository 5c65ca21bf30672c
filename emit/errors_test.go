package emit_test

import (
	"slices"
	"strconv"
	"testing"

	"wisp/api"
	"wisp/emit"
	"wisp/layout"
	"wisp/tree"
)

func program(defs ...api.Def) api.Program { return api.Program{Defs: defs} }

func word(name string, body ...api.Node) api.Def {
	return api.Def{Kind: defWord, Name: name, Body: body}
}

func constants(many int) []api.Def {
	var all []api.Def
	for i := range many {
		all = append(all, api.Def{Kind: defConst, Name: "k" + strconv.Itoa(i), Value: uint16(i)})
	}
	return all
}

func variable(name string, bytes uint16) api.Def {
	return api.Def{Kind: defVar, Name: name, Value: bytes}
}

func prims(many, op int) []api.Node {
	return slices.Repeat([]api.Node{{Kind: nodePrim, Op: op}}, many)
}

// within is a body in so many structures of a kind.
func within(many, kind int, body ...api.Node) []api.Node {
	for range many {
		body = []api.Node{{Kind: kind, Then: body}}
	}
	return body
}

// wrong is what may not be, with the error that tree.Check tells. None has a main: it comes ahead of these definitions, or behind them.
type wrong struct {
	what  string
	e     api.Errno
	defs  []api.Def
	banks []api.Bank
}

func wrongs() []wrong {
	lone := func(what string, e api.Errno, body ...api.Node) wrong {
		return wrong{what: what, e: e, defs: []api.Def{word("w", body...)}}
	}
	def := func(what string, e api.Errno, defs ...api.Def) wrong { return wrong{what: what, e: e, defs: defs} }
	bank := func(what string, e api.Errno, banks ...api.Bank) wrong {
		return wrong{what: what, e: e, banks: banks}
	}
	return []wrong{
		def("a definition of no kind", badTop, api.Def{Name: "w"}),
		def("a definition of another kind", badTop, api.Def{Kind: 4, Name: "w"}),
		def("a word with a value", badTop, api.Def{Kind: defWord, Name: "w", Value: 1}),
		def("a constant with a body", badTop, api.Def{Kind: defConst, Name: "k", Body: prims(1, nop)}),
		def("a variable with a body", badTop, api.Def{Kind: defVar, Name: "v", Value: 2, Body: prims(1, nop)}),
		def("no name", badName, word("")),
		def("a reserved name", badName, word("if")),
		def("a primitive's name", badName, variable("dup", 2)),
		def("a numeral", badName, word("7")),
		def("a name twice", badTwice, word("w"), variable("w", 2)),
		def("a great buffer", badValue, variable("v", 16385)),
		lone("a node of no kind", badTop, api.Node{}),
		lone("a node of another kind", badTop, api.Node{Kind: 10}),
		lone("a number with an Op", badTop, api.Node{Kind: nodeLit, Op: 9}),
		lone("a primitive with a body", badTop, api.Node{Kind: nodePrim, Op: 9, Then: prims(1, nop)}),
		lone("an Else without Has", badTop, api.Node{Kind: nodeIf, Else: prims(1, nop)}),
		lone("until with Has", badTop, api.Node{Kind: nodeUntil, Has: true}),
		lone("lit as a primitive", badWord, api.Node{Kind: nodePrim, Op: 3}),
		lone("a primitive of no number", badWord, api.Node{Kind: nodePrim, Op: 64}),
		lone("a primitive of a number below", badWord, api.Node{Kind: nodePrim, Op: -1}),
		lone("a name that is not known", badWord, api.Node{Kind: nodeCall, Name: "x"}),
		lone("a word that calls itself", badWord, api.Node{Kind: nodeCall, Name: "w"}),
		def("a name that comes later", badWord, word("w", api.Node{Kind: nodeCall, Name: "v"}), word("v")),
		lone("an exit in do", badLeave, within(1, nodeDo, api.Node{Kind: nodeExit})...),
		lone("an exit deep in do", badLeave, within(1, nodeDo, within(3, nodeAgain, api.Node{Kind: nodeExit})...)...),
		lone("too deep", badDeep, within(33, nodeUntil)...),
		lone("far too deep", badDeep, within(5000, nodeAgain)...),
		bank("a bank 16", badValue, api.Bank{Num: 16}),
		bank("a bank -1", badValue, api.Bank{Num: -1}),
		bank("a great bank", badValue, api.Bank{Num: 1, Data: make([]byte, 16385)}),
		bank("a bank twice", badTwice, api.Bank{Num: 1}, api.Bank{Num: 1}),
		bank("banks that fall", badTwice, api.Bank{Num: 2}, api.Bank{Num: 1}),
	}
}

func TestErrorsOfTheForm(t *testing.T) { // 13.1, 13.3: those of tree.Check, one by one
	for _, w := range wrongs() {
		for _, p := range []api.Program{
			{Defs: append([]api.Def{word("main")}, w.defs...), Banks: w.banks},
			{Defs: append(slices.Clone(w.defs), word("main")), Banks: w.banks},
		} {
			if e := tree.Check(p); e != w.e {
				t.Fatalf("the tests' own %s: %d", w.what, e)
			}
			wantError(t, w.what, w.e, p)
		}
	}
	wantError(t, "a constant main", badMain, program(api.Def{Kind: defConst, Name: "main"}))
	wantError(t, "a variable main", badMain, program(variable("main", 2)))
	wantError(t, "words without main", badMain, program(word("a"), word("Main")))
	wantError(t, "banks alone", badMain, api.Program{Banks: []api.Bank{{Num: 1, Data: []byte{1}}}})
}

// full is definitions that pass a limit, main among them, with the error that layout.Of tells.
type full struct {
	what string
	e    api.Errno
	defs []api.Def
}

func fulls() []full {
	main := word("main")
	return []full{
		{"a definition too many", tooMany, append(constants(512), main)},
		{"many too many", tooMany, append([]api.Def{main}, constants(2000)...)},
		{"a cell too many", tooLong, []api.Def{word("main", prims(8127, nop)...)}},
		{"code far too long", tooLong, []api.Def{word("long", prims(100000, nop)...), main}},
		{"a constant too many", tooLong, []api.Def{word("main", prims(8125, nop)...), constants(1)[0]}},
		{"a byte too many", tooGreat, []api.Def{variable("a", 16384), variable("b", 1), main}},
		{"variables far too great", tooGreat, []api.Def{variable("a", 16384), main, variable("b", 16384), variable("c", 16384)}},
	}
}

func TestErrorsOfTheRoom(t *testing.T) { // 13.1, 13.3: those of layout.Of, one by one; each just met is none
	for _, f := range fulls() {
		p := program(f.defs...)
		if _, _, _, _, e := layout.Of(p); e != f.e || tree.Check(p) != fine {
			t.Fatalf("the tests' own %s: %d", f.what, e)
		}
		wantError(t, f.what, f.e, p)
	}
	for _, p := range []api.Program{
		program(append(constants(511), word("main"))...),
		program(word("main", prims(8126, nop)...)),
		program(word("main", prims(8124, nop)...), constants(1)[0]),
		program(variable("a", 16384), variable("b", 0), word("main")),
		program(word("main", within(32, nodeUntil)...)),
	} {
		c, e := emit.Cart(p)
		if e != fine {
			t.Fatalf("%.200v: %d", p, e)
		}
		wantHeld(t, "just met", p, c)
	}
	// The room is that of the first definition that has none, as layout.Of tells it.
	wantError(t, "variables ahead of code", tooGreat, program(variable("a", 16384), variable("b", 1), word("main", prims(9000, nop)...)))
	wantError(t, "code ahead of variables", tooLong, program(word("main", prims(9000, nop)...), variable("a", 16384), variable("b", 1)))
}

func TestFormAheadOfRoom(t *testing.T) { // 13.1: where both are there tree.Check's error is told, wherever it stands
	for _, f := range fulls() {
		for _, w := range wrongs() {
			for _, p := range []api.Program{
				{Defs: slices.Concat(w.defs, f.defs), Banks: w.banks},
				{Defs: slices.Concat(f.defs, w.defs), Banks: w.banks},
			} {
				if _, _, _, _, e := layout.Of(p); e == fine {
					t.Fatalf("the tests' own %s with %s has room", f.what, w.what)
				}
				wantError(t, f.what+", "+w.what, w.e, p)
			}
		}
		noMain := slices.Clone(f.defs)
		for i := range noMain {
			if noMain[i].Name == "main" {
				noMain[i].Name = "other"
			}
		}
		wantError(t, f.what+", no main", badMain, program(noMain...))
	}
}

func TestUntypableProgramsHaveCode(t *testing.T) { // 13.1, 13.3: a word without a shape is no error
	for _, src := range []string{": main drop ;", ": main 1 ;", ": main r> ;", ": main if 1 then ;", ": main begin 1 again ;", ": main j ;", ": main if exit then drop ;", ": a r> ; : b a ; : main b ;"} {
		_, e := emit.Code(taken(t, src))
		if _, f := emit.Cart(taken(t, src)); e != fine || f != fine {
			t.Errorf("%s: %d, %d", src, e, f)
		}
	}
}
