// Package spare is for tests alone: lists, programs and cartridges with room behind them, so that it shows when a call writes there or looks there (DOC.md, R3).
package spare

import (
	"slices"

	"wisp/api"
)

// Given is a copy of a list that has room behind it, with something in it.
func Given[T any](list []T, behind T) []T {
	n := len(list)
	return append(slices.Clone(list), behind, behind, behind)[:n]
}

// Over writes over a list, its room too.
func Over[T any](list []T, x T) {
	all := list[:cap(list)]
	for i := range all {
		all[i] = x
	}
}

// Program is a copy of a program, each of whose lists has room behind it.
func Program(p api.Program) api.Program {
	p.Defs = Given(p.Defs, api.Def{Kind: 77, Name: "room"})
	for i := range p.Defs {
		p.Defs[i].Body = nodes(p.Defs[i].Body)
	}
	p.Banks = banks(p.Banks)
	return p
}

func nodes(list []api.Node) []api.Node {
	list = Given(list, api.Node{Kind: 77, Name: "room"})
	for i := range list {
		list[i].Then, list[i].Else = nodes(list[i].Then), nodes(list[i].Else)
	}
	return list
}

// Whole is a copy of a program in which the room of its lists stands as if it were in them.
func Whole(p api.Program) api.Program {
	p.Defs, p.Banks = slices.Clone(p.Defs[:cap(p.Defs)]), wholeBanks(p.Banks)
	for i := range p.Defs {
		p.Defs[i].Body = wholeNodes(p.Defs[i].Body)
	}
	return p
}

func wholeNodes(list []api.Node) []api.Node {
	list = slices.Clone(list[:cap(list)])
	for i := range list {
		list[i].Then, list[i].Else = wholeNodes(list[i].Then), wholeNodes(list[i].Else)
	}
	return list
}
