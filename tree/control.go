package tree

import (
	"slices"

	"wisp/api"
)

// control tells what a word of control does in a body; nil: it is none. Each of them stands at r.at.
func (r *reader) control(word string) func() {
	switch word {
	case "if":
		return r.openIf
	case "else":
		return r.turnElse
	case "then":
		return r.closeThen
	case "begin":
		return r.openBegin
	case "until":
		return r.closeUntil
	case "again":
		return r.closeAgain
	case "while":
		return r.turnWhile
	case "repeat":
		return r.closeRepeat
	case "do":
		return r.openDo
	case "loop":
		return r.closeLoop
	case "exit":
		return r.leave
	case ";":
		return r.finish
	}
	return nil
}

func (r *reader) openIf()    { r.begin(api.NodeIf) }
func (r *reader) openBegin() { r.begin(begun) }
func (r *reader) openDo()    { r.begin(api.NodeDo) }

func (r *reader) closeThen()   { r.close(api.NodeIf, api.NodeIf) }
func (r *reader) closeUntil()  { r.close(begun, api.NodeUntil) }
func (r *reader) closeAgain()  { r.close(begun, api.NodeAgain) }
func (r *reader) closeRepeat() { r.close(api.NodeWhile, api.NodeWhile) }
func (r *reader) closeLoop()   { r.close(api.NodeDo, api.NodeDo) }

func (r *reader) turnElse() {
	r.mustStandIn(api.NodeIf)
	must(!r.top().Has, r.at, api.ErrPair)
	r.top().Has = true
}

func (r *reader) turnWhile() {
	r.mustStandIn(begun)
	r.top().Kind = api.NodeWhile
}

// leave is exit's: inside a do there is more on the return stack than where to go on.
func (r *reader) leave() {
	must(!slices.ContainsFunc(r.open, isDo), r.at, api.ErrLeave)
	r.add(api.Node{Kind: api.NodeExit, Pos: r.at.Pos})
}

// finish is that of the word behind a body.
func (r *reader) finish() {
	must(len(r.open) == 0, r.at, api.ErrPair)
	r.ended = true
}

func isDo(n api.Node) bool {
	return n.Kind == api.NodeDo
}

// begin opens a structure.
func (r *reader) begin(kind int) {
	must(len(r.open) < api.MaxNest, r.at, api.ErrDeep)
	r.open = append(r.open, api.Node{Kind: kind, Pos: r.at.Pos})
}

// mustStandIn ends the reader, if the innermost structure is not of that kind, or there is none.
func (r *reader) mustStandIn(kind int) {
	must(len(r.open) > 0 && r.top().Kind == kind, r.at, api.ErrPair)
}

// close ends the innermost structure, which is of the one kind so far, as one of the other.
func (r *reader) close(kind, becomes int) {
	r.mustStandIn(kind)
	n := *r.top()
	n.Kind = becomes
	r.open = r.open[:len(r.open)-1]
	r.add(n)
}
