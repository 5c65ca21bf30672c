package meaning

import "wisp/api"

// place is where a word stands in its tree: ahead of an instruction.
type place interface {
	// look tells the instruction.
	look() instruction
	// on tells the place that comes next: behind the instruction, or, if it leads elsewhere, there.
	on(leads bool) place
}

// spot is a node of a body, or the body's end; behind is the place that comes when the body has ended.
type spot struct {
	body   []node
	n      int
	behind place
}

// first is the place at which a body begins.
func first(body []node, behind place) place {
	return spot{body: body, behind: behind}.begin()
}

// begin is the place of the first instruction from here on. Structures are entered, as deep as they go, where their own instructions do not come first.
func (s spot) begin() place {
	if s.n == len(s.body) {
		return s.behind
	}
	x := s.node()
	switch x.kind {
	case api.NodeIf:
		return choice{s}
	case api.NodeUntil:
		return first(x.then, until{s})
	case api.NodeWhile:
		return first(x.then, while{s})
	case api.NodeAgain:
		return first(x.then, back{s})
	case api.NodeDo:
		return counted{s}
	}
	return single{s}
}

// past is the place behind the whole node.
func (s spot) past() place {
	s.n++
	return s.begin()
}

func (s spot) node() node {
	return s.body[s.n]
}

// added is an instruction that a structure adds to those of its bodies.
func (s spot) added(op int) instruction {
	return instruction{op: op, pos: s.node().pos}
}

// single is a node that is one instruction.
type single struct{ spot }

func (s single) look() instruction   { return s.node().instruction }
func (s single) on(leads bool) place { return s.past() }

// choice is the zbranch of an if.
type choice struct{ spot }

func (c choice) look() instruction { return c.added(api.OpZBranch) }

func (c choice) on(leads bool) place {
	x := c.node()
	switch {
	case !x.has && leads:
		return c.past()
	case !x.has:
		return first(x.then, c.past())
	case leads:
		return first(x.other, c.past())
	}
	return first(x.then, over{c.spot})
}

// over is the branch that leads over what stands behind else.
type over struct{ spot }

func (o over) look() instruction   { return o.added(api.OpBranch) }
func (o over) on(leads bool) place { return o.past() }

// until is the zbranch behind begin .. until.
type until struct{ spot }

func (u until) look() instruction { return u.added(api.OpZBranch) }

func (u until) on(leads bool) place {
	if leads {
		return u.begin()
	}
	return u.past()
}

// while is the zbranch between begin .. while and what is repeated.
type while struct{ spot }

func (w while) look() instruction { return w.added(api.OpZBranch) }

func (w while) on(leads bool) place {
	if leads {
		return w.past()
	}
	return first(w.node().other, back{w.spot})
}

// back is the branch of again and repeat.
type back struct{ spot }

func (b back) look() instruction   { return b.added(api.OpBranch) }
func (b back) on(leads bool) place { return b.begin() }

// counted is the do of do .. loop.
type counted struct{ spot }

func (c counted) look() instruction   { return c.added(api.OpDo) }
func (c counted) on(leads bool) place { return first(c.node().then, loop{c.spot}) }

// loop is the loop behind do .. loop.
type loop struct{ spot }

func (l loop) look() instruction { return l.added(api.OpLoop) }

func (l loop) on(leads bool) place {
	if leads {
		return first(l.node().then, l)
	}
	return l.past()
}

// end is a word's own exit. Nothing of the word comes behind it.
type end struct{ pos api.Pos }

func (e end) look() instruction   { return instruction{op: api.OpExit, pos: e.pos} }
func (e end) on(leads bool) place { return e }
