package infer

import "wisp/api"

// room is for two own cells more than there may be: a do puts them there ahead of their being found too many.
const room = api.MaxReturn + 2

// state is how the stacks stand, against how they stood at the word's begin.
type state struct {
	height int
	many   int         // how many own cells there are
	own    [room]uint8 // their kinds, the lowest first; behind the last one 0, so that two states' are alike just if the arrays are
}

// like tells whether two are the same; how many own cells there are follows from the cells.
func (s state) like(t state) bool {
	return s.height == t.height && s.own == t.own
}

// kind tells that of the own cell so far below the last one; 0, if there is none.
func (s state) kind(below int) int {
	if below >= s.many {
		return 0
	}
	return int(s.own[s.many-1-below])
}

// with is the state with own cells more.
func (s state) with(kinds ...uint8) state {
	s.many += copy(s.own[s.many:], kinds)
	return s
}

// without is the state with so many of its last own cells gone; it has them.
func (s state) without(many int) state {
	clear(s.own[s.many-many:])
	s.many -= many
	return s
}

// fits tells whether the own cells are such as a primitive looks at.
func (s state) fits(op int) bool {
	switch op {
	case api.OpFromR, api.OpRFetch:
		return s.kind(0) == api.KindSaved
	case api.OpI:
		return s.kind(0) == api.KindIndex
	case api.OpJ:
		return s.kind(2) == api.KindIndex
	case api.OpLoop:
		return s.kind(0) == api.KindIndex && s.kind(1) == api.KindLimit
	case api.OpExit:
		return s.many == 0
	}
	return true
}

// after is the state behind a primitive that it fits, whose step lifts the data stack by so much. What loop drops it drops on one of its ways alone, and so not here.
func (s state) after(op, lift int) state {
	s.height += lift
	switch op {
	case api.OpToR:
		return s.with(api.KindSaved)
	case api.OpFromR:
		return s.without(1)
	case api.OpDo:
		return s.with(api.KindLimit, api.KindIndex)
	}
	return s
}
