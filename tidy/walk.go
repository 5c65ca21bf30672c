package tidy

// walk goes through a list whose inner lists are settled.
type walk struct {
	behind chain // what lies left of the place: at none of these a rule applies
	ahead  chain // what lies from the place on
}

// settled tells what a list comes to. The list is used up.
func settled(list chain) chain {
	w := &walk{ahead: list}
round:
	if w.rule() {
		w.back()
		goto round
	}
	if w.forth() {
		goto round
	}
	return w.behind
}

// back goes two places to the left: no rule looks further than at three nodes, but for the last one, which asks of a node further left what it asked before.
func (w *walk) back() {
	stays := w.behind.last
	for range 2 {
		if stays != nil {
			stays = stays.prev
		}
	}
	var seen chain
	w.behind, seen = w.behind.cut(stays)
	w.ahead = join(seen, w.ahead)
}

// forth goes on to the next place at which a rule may apply; false: there is none.
func (w *walk) forth() bool {
	if w.ahead.empty() {
		return false
	}
	var passed chain
	passed, w.ahead = w.ahead.cut(w.ahead.first.atRest())
	passed.first.run = nil
	w.behind = join(w.behind, passed)
	return true
}

// atRest tells the last of the items from here on at which no rule applies, if none applies here: of a run all but the last two, which see what stands behind it.
func (x *item) atRest() *item {
	if x.run == nil || x == x.run || x == x.run.prev {
		return x
	}
	return x.run.prev.prev
}

// put lets a chain stand at the place instead of so many items.
func (w *walk) put(insteadOf int, by chain) {
	for range insteadOf {
		w.ahead = w.ahead.rest()
	}
	w.ahead = join(by, w.ahead)
}
