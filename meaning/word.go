package meaning

import (
	"wisp/api"
	"wisp/layout"
	"wisp/prim"
)

// instruction is what is done at once: a primitive, what it puts if it puts a number, the word that it enters if it enters one; and its place in the source.
type instruction struct {
	op    int
	value uint16
	word  *word
	pos   api.Pos
}

func (x instruction) cost() int {
	// No error: no instruction is made of another number than a primitive's.
	p, _ := prim.Of(x.op)
	return p.Cost
}

// node is an api.Node with what its name means. A structure's instruction has nothing but its place: what is done there hangs on where in it a word stands.
type node struct {
	instruction
	kind        int
	then, other []node
	has         bool
}

// word is one that a program defines.
type word struct {
	body []node
	pos  api.Pos
}

// begin is the place of the word's first instruction.
func (w *word) begin() place {
	return first(w.body, end{w.pos})
}

// names tells what is done at a name.
type names map[string]instruction

// namesOf goes through definitions that have those places. A name is known behind its own definition alone, so that each is known where it is met.
func namesOf(defs []api.Def, places []layout.Place) names {
	known := names{}
	for i, d := range defs {
		switch d.Kind {
		case api.DefWord:
			known[d.Name] = instruction{op: api.OpEnter, word: &word{body: known.nodes(d.Body), pos: d.Pos}}
		case api.DefConstant:
			known[d.Name] = instruction{op: api.OpConst, value: d.Value}
		case api.DefVariable:
			known[d.Name] = instruction{op: api.OpConst, value: places[i].Ram}
		}
	}
	return known
}

// nodes copies nodes, so that nothing is shared with the caller's.
func (known names) nodes(list []api.Node) []node {
	var copies []node
	for _, n := range list {
		copies = append(copies, node{
			instruction: known.instruction(n),
			kind:        n.Kind,
			then:        known.nodes(n.Then),
			other:       known.nodes(n.Else),
			has:         n.Has,
		})
	}
	return copies
}

// instruction is that of a node which is one by itself.
func (known names) instruction(n api.Node) instruction {
	x := instruction{op: n.Op}
	switch n.Kind {
	case api.NodeLit:
		x = instruction{op: api.OpLit, value: n.Value}
	case api.NodeCall:
		x = known[n.Name]
	case api.NodeExit:
		x.op = api.OpExit
	}
	x.pos = n.Pos
	return x
}
