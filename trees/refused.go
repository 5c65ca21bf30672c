package trees

import (
	"slices"

	"wisp/api"
)

// Refused is a program that may not be, with the error that it has.
type Refused struct {
	What    string
	Err     api.Errno
	Program api.Program
}

// Wrong are those that tree.Check refuses, for each of its errors; what is wrong stands ahead of main, and behind it.
func Wrong() []Refused {
	var all []Refused
	for _, x := range wrongs() {
		for _, defs := range [][]api.Def{
			append([]api.Def{Word("main")}, x.Program.Defs...),
			append(slices.Clone(x.Program.Defs), Word("main")),
		} {
			all = append(all, Refused{x.What, x.Err, api.Program{Defs: defs, Banks: x.Program.Banks}})
		}
	}
	return append(all,
		Refused{"nothing", badMain, api.Program{}},
		Refused{"a constant main", badMain, Program(api.Def{Kind: defConst, Name: "main"})},
		Refused{"a variable main", badMain, Program(Variable("main", 2))},
		Refused{"words without main", badMain, Program(Word("a"), Word("Main"))},
		Refused{"banks alone", badMain, api.Program{Banks: []api.Bank{{Num: 1, Data: []byte{1}}}}},
	)
}

// wrongs are definitions and banks that tree.Check refuses. None has a main.
func wrongs() []Refused {
	def := func(what string, e api.Errno, defs ...api.Def) Refused { return Refused{what, e, Program(defs...)} }
	lone := func(what string, e api.Errno, body ...api.Node) Refused { return def(what, e, Word("w", body...)) }
	bank := func(what string, e api.Errno, banks ...api.Bank) Refused {
		return Refused{what, e, api.Program{Banks: banks}}
	}
	return []Refused{
		def("a definition of no kind", badTop, api.Def{Name: "w"}),
		def("a definition of another kind", badTop, api.Def{Kind: 4, Name: "w"}),
		def("a word with a value", badTop, api.Def{Kind: defWord, Name: "w", Value: 1}),
		def("a constant with a body", badTop, api.Def{Kind: defConst, Name: "k", Body: Prims(1, nop)}),
		def("a variable with a body", badTop, api.Def{Kind: defVar, Name: "v", Value: 2, Body: Prims(1, nop)}),
		def("no name", badName, Word("")),
		def("a reserved name", badName, Word("if")),
		def("a primitive's name", badName, Variable("dup", 2)),
		def("a numeral", badName, Word("7")),
		def("a name twice", badTwice, Word("w"), Variable("w", 2)),
		def("a great buffer", badValue, Variable("v", 16385)),
		lone("a node of no kind", badTop, api.Node{}),
		lone("a node of another kind", badTop, api.Node{Kind: 10}),
		lone("a number with an Op", badTop, api.Node{Kind: nodeLit, Op: 9}),
		lone("a primitive with a body", badTop, api.Node{Kind: nodePrim, Op: 9, Then: Prims(1, nop)}),
		lone("an Else without Has", badTop, api.Node{Kind: nodeIf, Else: Prims(1, nop)}),
		lone("until with Has", badTop, api.Node{Kind: nodeUntil, Has: true}),
		lone("lit as a primitive", badWord, api.Node{Kind: nodePrim, Op: 3}),
		lone("a primitive of no number", badWord, api.Node{Kind: nodePrim, Op: 64}),
		lone("a primitive of a number below", badWord, api.Node{Kind: nodePrim, Op: -1}),
		lone("a name that is not known", badWord, api.Node{Kind: nodeCall, Name: "x"}),
		lone("a word that calls itself", badWord, api.Node{Kind: nodeCall, Name: "w"}),
		def("a name that comes later", badWord, Word("w", api.Node{Kind: nodeCall, Name: "v"}), Word("v")),
		lone("an exit in do", badLeave, Within(1, nodeDo, api.Node{Kind: nodeExit})...),
		lone("an exit deep in do", badLeave, Within(1, nodeDo, Within(3, nodeAgain, api.Node{Kind: nodeExit})...)...),
		lone("too deep", badDeep, Within(33, nodeUntil)...),
		lone("far too deep", badDeep, Within(5000, nodeAgain)...),
		bank("a bank 16", badValue, api.Bank{Num: 16}),
		bank("a bank -1", badValue, api.Bank{Num: -1}),
		bank("a great bank", badValue, api.Bank{Num: 1, Data: make([]byte, 16385)}),
		bank("a bank twice", badTwice, api.Bank{Num: 1}, api.Bank{Num: 1}),
		bank("banks that fall", badTwice, api.Bank{Num: 2}, api.Bank{Num: 1}),
	}
}

// Full are those that tree.Check takes and for which there is no room: layout.Of's errors.
func Full() []Refused {
	main := Word("main")
	return []Refused{
		{"a definition too many", tooMany, Program(append(Constants(512), main)...)},
		{"many too many", tooMany, Program(append([]api.Def{main}, Constants(2000)...)...)},
		{"a cell too many", tooLong, Program(Word("main", Prims(8127, nop)...))},
		{"code far too long", tooLong, Program(Word("long", Prims(100000, nop)...), main)},
		{"a constant too many", tooLong, Program(Word("main", Prims(8125, nop)...), Constants(1)[0])},
		{"a byte too many", tooGreat, Program(Variable("a", 16384), Variable("b", 1), main)},
		{"variables far too great", tooGreat, Program(Variable("a", 16384), main, Variable("b", 16384), Variable("c", 16384))},
		// The room is that of the first definition that has none.
		{"variables ahead of code", tooGreat, Program(Variable("a", 16384), Variable("b", 1), Word("main", Prims(9000, nop)...))},
		{"code ahead of variables", tooLong, Program(Word("main", Prims(9000, nop)...), Variable("a", 16384), Variable("b", 1))},
	}
}

// Both are those that are wrong and for which there is no room either: the form's error is told, wherever it stands.
func Both() []Refused {
	var all []Refused
	for _, f := range Full() {
		for _, w := range wrongs() {
			for _, defs := range [][]api.Def{
				slices.Concat(w.Program.Defs, f.Program.Defs),
				slices.Concat(f.Program.Defs, w.Program.Defs),
			} {
				all = append(all, Refused{f.What + ", " + w.What, w.Err, api.Program{Defs: defs, Banks: w.Program.Banks}})
			}
		}
		noMain := slices.Clone(f.Program.Defs)
		for i := range noMain {
			if noMain[i].Name == "main" {
				noMain[i].Name = "other"
			}
		}
		all = append(all, Refused{f.What + ", no main", badMain, Program(noMain...)})
	}
	return all
}

// JustTaken are those that meet a limit, and pass none.
func JustTaken() []api.Program {
	return []api.Program{
		Program(append(Constants(511), Word("main"))...),
		Program(Word("main", Prims(8126, nop)...)),
		Program(Word("main", Prims(8124, nop)...), Constants(1)[0]),
		Program(Variable("a", 16384), Variable("b", 0), Word("main")),
		Program(Word("main", Within(32, nodeUntil)...)),
	}
}
