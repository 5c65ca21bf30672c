package tidy

import (
	"wisp/api"
	"wisp/num"
)

// rule does the first of the rules that apply at the place; false: none does.
func (w *walk) rule() bool {
	a := w.ahead.first
	b := a.after()
	c := b.after()
	return w.reckoned(a, b, c) || w.undone(a, b) || w.shortened(a, b) || w.numbers(a, b, c) ||
		w.choice(a, b, c) || w.loop(a) || w.end(a)
}

// reckoned is rules 1 to 3: what does nothing, and what can be reckoned ahead.
func (w *walk) reckoned(a, b, c *item) bool {
	if a.isPrim(api.OpNop) {
		w.put(1, chain{})
		return true
	}
	if !a.isNumber() {
		return false
	}
	if b.is(api.NodePrim) {
		z, is := num.Unary(b.Op, a.Value)
		if is {
			w.put(2, number(z, a.Pos))
		}
		return is
	}
	if !b.isNumber() || !c.is(api.NodePrim) {
		return false
	}
	z, is := num.Binary(c.Op, a.Value, b.Value)
	if is {
		w.put(3, number(z, a.Pos))
	}
	return is
}

// undone is rule 4: what comes to nothing.
func (w *walk) undone(a, b *item) bool {
	if !b.is(api.NodePrim) {
		return false
	}
	if a.isNumber() && idles(a.Value, b.Op) || a.is(api.NodePrim) && undoes(a.Op, b.Op) {
		w.put(2, chain{})
		return true
	}
	return false
}

// shortened is rule 5: one primitive instead of two nodes.
func (w *walk) shortened(a, b *item) bool {
	op := 0
	switch {
	case !b.is(api.NodePrim):
		return false
	case a.isNumber():
		op = ofNumber(a.Value, b.Op)
	case a.is(api.NodePrim):
		op = ofPair(a.Op, b.Op)
	}
	if op == 0 {
		return false
	}
	w.put(2, primitive(op, a.Pos))
	return true
}

// numbers is rules 6 and 7: two in the other order, and one that comes twice.
func (w *walk) numbers(a, b, c *item) bool {
	switch {
	case !a.isNumber() || !b.isNumber():
		return false
	case c.isPrim(api.OpSwap):
		w.put(3, join(b.alone(), a.alone()))
		return true
	case a.Value == b.Value:
		w.put(2, join(a.alone(), primitive(api.OpDup, b.Pos)))
		return true
	}
	return false
}

// choice is rules 8 to 11: an if whose way is known, and ways without nodes.
func (w *walk) choice(a, b, c *item) bool {
	switch {
	case a.isPrim(api.OpZero) && b.isPrim(api.OpZero) && c.is(api.NodeIf):
		w.put(3, c.alone())
	case a.isNumber() && b.is(api.NodeIf):
		w.put(2, b.way(a.Value).asRun())
	case !a.is(api.NodeIf):
		return false
	case a.then.empty() && a.way(0).empty():
		w.put(1, primitive(api.OpDrop, a.Pos))
	case a.Has && a.other.empty():
		w.put(1, structure(api.NodeIf, a.then, a.Pos))
	default:
		return false
	}
	return true
}

// way is where an if goes with a number.
func (x *item) way(n uint16) chain {
	if n != 0 {
		return x.then
	}
	if x.Has {
		return x.other
	}
	return chain{}
}

// loop is rules 12 and 13: loops that never end, and those that are gone through just once.
func (w *walk) loop(a *item) bool {
	if !a.is(api.NodeUntil) && !a.is(api.NodeWhile) || !a.then.last.isNumber() {
		return false
	}
	n := a.then.last
	then, _ := a.then.cut(n.prev)
	then = then.asRun()
	if (n.Value != 0) == a.is(api.NodeUntil) {
		w.put(1, then)
		return true
	}
	if a.is(api.NodeWhile) {
		then = join(then, a.other.asRun())
	}
	w.put(1, structure(api.NodeAgain, settled(then), a.Pos))
	return true
}

// end is rule 14: what is never come to.
func (w *walk) end(a *item) bool {
	if a == w.ahead.last || !a.isPrim(api.OpHalt) && !a.is(api.NodeExit) && !a.is(api.NodeAgain) {
		return false
	}
	w.ahead = a.alone()
	return true
}
