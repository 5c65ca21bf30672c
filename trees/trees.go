// Package trees is for tests alone: programs that are made by hand, node by node, and programs that may not be, each with its error.
package trees

import (
	"slices"
	"strconv"

	"wisp/api"
)

// The kinds and errors by the document's numbers, not by api's names: a slip in one of the two must show.
const (
	defWord   = 1
	defConst  = 2
	defVar    = 3
	nodePrim  = 1
	nodeLit   = 2
	nodeCall  = 3
	nodeIf    = 4
	nodeUntil = 5
	nodeAgain = 7
	nodeDo    = 8
	nodeExit  = 9
	nop       = 9
	badTop    = api.Errno(100)
	badName   = api.Errno(101)
	badTwice  = api.Errno(102)
	badWord   = api.Errno(103)
	badValue  = api.Errno(106)
	badMain   = api.Errno(107)
	badLeave  = api.Errno(108)
	badDeep   = api.Errno(109)
	tooMany   = api.Errno(110)
	tooLong   = api.Errno(111)
	tooGreat  = api.Errno(112)
)

// Program is one of these definitions.
func Program(defs ...api.Def) api.Program { return api.Program{Defs: defs} }

// Word is one with that body.
func Word(name string, body ...api.Node) api.Def {
	return api.Def{Kind: defWord, Name: name, Body: body}
}

// Constants are so many, k0 the first.
func Constants(many int) []api.Def {
	var all []api.Def
	for i := range many {
		all = append(all, api.Def{Kind: defConst, Name: "k" + strconv.Itoa(i), Value: uint16(i)})
	}
	return all
}

// Variable is one of so many bytes.
func Variable(name string, bytes uint16) api.Def {
	return api.Def{Kind: defVar, Name: name, Value: bytes}
}

// Prims are so many of one primitive.
func Prims(many, op int) []api.Node {
	return slices.Repeat([]api.Node{{Kind: nodePrim, Op: op}}, many)
}

// Within is a body in so many structures of a kind.
func Within(many, kind int, body ...api.Node) []api.Node {
	for range many {
		body = []api.Node{{Kind: kind, Then: body}}
	}
	return body
}

// Each goes through the nodes of a body, those inside others too.
func Each(list []api.Node, do func(*api.Node)) {
	for i := range list {
		do(&list[i])
		Each(list[i].Then, do)
		Each(list[i].Else, do)
	}
}
