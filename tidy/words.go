package tidy

import (
	"slices"

	"wisp/api"
)

// rewritten tells definitions with new bodies in the words to which main leads. What a word calls stands ahead of it, and so has its new body already.
func rewritten(defs []api.Def) []api.Def {
	led := ledTo(defs)
	made := bodies{}
	defs = slices.Clone(defs)
	for i := range defs {
		if d := &defs[i]; led[i] && d.Kind == api.DefWord {
			d.Body = made.body(d.Body)
			made[d.Name] = d.Body
		}
	}
	return defs
}

// bodies are those that words have got, by their names.
type bodies map[string][]api.Node

// body tells what becomes of a word's.
func (made bodies) body(list []api.Node) []api.Node {
	list = Body(made.called(list))
	if last := len(list) - 1; last >= 0 && list[last].Kind == api.NodeExit {
		list = list[:last]
	}
	return list
}

// called tells nodes in which calls of words that are next to nothing are no calls any more. Only a call's node has a name.
func (made bodies) called(list []api.Node) []api.Node {
	var all []api.Node
	for _, n := range list {
		if body, isWord := made[n.Name]; isWord && nextToNothing(body) {
			for _, instead := range body {
				instead.Pos = n.Pos
				all = append(all, instead)
			}
			continue
		}
		n.Then, n.Else = made.called(n.Then), made.called(n.Else)
		all = append(all, n)
	}
	return all
}

// nextToNothing tells whether a body may stand wherever its word is called: it has no nodes, or one primitive, or one call.
func nextToNothing(body []api.Node) bool {
	return len(body) == 0 || len(body) == 1 && (body[0].Kind == api.NodePrim || body[0].Kind == api.NodeCall)
}

// needed leaves out the words and constants to which main does not lead. Variables stay, so that the others lie where they lay.
func needed(defs []api.Def) []api.Def {
	led := ledTo(defs)
	var left []api.Def
	for i, d := range defs {
		if d.Kind != api.DefWord {
			// An empty list may have room that is not ours.
			d.Body = nil
		}
		if led[i] || d.Kind == api.DefVariable {
			left = append(left, d)
		}
	}
	return left
}

// ledTo tells which definitions main leads to, of a program that may be: no body names what stands behind it, so that to go back once is enough.
func ledTo(defs []api.Def) []bool {
	at := make(map[string]int, len(defs))
	for i, d := range defs {
		at[d.Name] = i
	}
	led := make([]bool, len(defs))
	led[at["main"]] = true
	for i, d := range slices.Backward(defs) {
		if led[i] {
			mark(d.Body, at, led)
		}
	}
	return led
}

// mark marks the definitions whose names stand in a body. Only a call's node has a name.
func mark(body []api.Node, at map[string]int, led []bool) {
	for _, n := range body {
		if i, is := at[n.Name]; is {
			led[i] = true
		}
		mark(n.Then, at, led)
		mark(n.Else, at, led)
	}
}
