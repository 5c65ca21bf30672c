package infer

import (
	"slices"

	"wisp/api"
	"wisp/flow"
	"wisp/prim"
)

// cellSize is how many bytes of the code a cell has.
const cellSize = 2

// walk goes along every way through one word.
type walk struct {
	instrs map[uint16]flow.Instr // by their addresses
	known  map[uint16]api.Shape
	stands map[uint16]state // the state at each address that one has come to
	waits  waiting          // which of these addresses have not been looked at
	shape  api.Shape        // In, Data and Return as they have grown; Never, till an exit has a height
	left   int              // the exits' height
}

func newWalk(instrs []flow.Instr, known map[uint16]api.Shape) *walk {
	w := &walk{
		instrs: map[uint16]flow.Instr{},
		known:  known,
		stands: map[uint16]state{},
		shape:  api.Shape{Never: true},
	}
	// From behind, so that of two at one address the first is the one that is kept.
	for _, x := range slices.Backward(instrs) {
		w.instrs[x.At] = x
	}
	return w
}

// word goes through the word with that code field.
func (w *walk) word(field uint16) (api.Shape, api.Verdict) {
	w.stand(field+cellSize, state{})
	for at, some := w.waits.take(); some; at, some = w.waits.take() {
		if e := w.look(at); e != api.OK {
			return api.Shape{}, api.Verdict{Err: e, At: at}
		}
	}
	shape := w.shape
	if !shape.Never {
		// Only now is In all that the word takes, wherever the exit stood.
		shape.Out = shape.In + w.left
	}
	if shape.Out > api.MaxData {
		return api.Shape{}, api.Verdict{Err: api.ErrDepth, At: field}
	}
	return shape, api.Verdict{}
}

func (w *walk) stand(at uint16, s state) {
	w.stands[at] = s
	w.waits.add(at)
}

// look goes through the instruction at an address at which a state stands.
func (w *walk) look(at uint16) api.Errno {
	x, is := w.instrs[at]
	if !is {
		return api.ErrFall
	}
	step, e := w.stepOf(x)
	if e != api.OK {
		return e
	}
	s := w.stands[at]
	if !s.fits(x.Op) {
		return api.ErrReturn
	}
	after := s.after(x.Op, step.Out-step.In)
	if !w.grow(s, step, after) {
		return api.ErrDepth
	}
	if step.Never {
		return api.OK
	}
	return w.goOn(x, after)
}

// stepOf tells what an instruction takes and leaves, how high it lifts the stacks meanwhile, and whether it leads nowhere, as the shape of a word would.
func (w *walk) stepOf(x flow.Instr) (api.Shape, api.Errno) {
	row, e := prim.Of(x.Op)
	if e != api.OK {
		return api.Shape{}, api.ErrOpcode
	}
	if x.Op != api.OpEnter {
		return api.Shape{In: row.In, Out: row.Out, Never: x.Op == api.OpHalt}, api.OK
	}
	shape, is := w.known[x.Word]
	if !is || !mayBe(shape) {
		return api.Shape{}, api.ErrCall
	}
	// The cell to which the word comes back.
	shape.Return++
	return shape, api.OK
}

// mayBe tells whether a shape that was handed in counts.
func mayBe(s api.Shape) bool {
	least, most := min(s.In, s.Out, s.Data, s.Return), max(s.In, s.Out, s.Data, s.Return)
	return least >= 0 && most <= api.MaxData
}

// grow lets the three numbers be at least what a step from one state to another asks for, and tells whether they may be so great.
func (w *walk) grow(from state, step api.Shape, to state) bool {
	s := &w.shape
	s.In = max(s.In, step.In-from.height)
	s.Data = max(s.Data, from.height+step.Data, to.height)
	s.Return = max(s.Return, to.many+step.Return)
	return s.In <= api.MaxData && s.Data <= api.MaxData && s.Return <= api.MaxReturn
}

// goOn goes on from an instruction, with the state behind it, along all its ways.
func (w *walk) goOn(x flow.Instr, s state) api.Errno {
	switch x.Op {
	case api.OpExit:
		return w.leave(s.height)
	case api.OpBranch:
		return w.come(x.At, x.Operand, s)
	case api.OpZBranch:
		if e := w.come(x.At, x.Next, s); e != api.OK {
			return e
		}
		return w.come(x.At, x.Operand, s)
	case api.OpLoop:
		if e := w.come(x.At, x.Operand, s); e != api.OK {
			return e
		}
		return w.come(x.At, x.Next, s.without(2))
	}
	return w.come(x.At, x.Next, s)
}

// leave is an exit: all have one height.
func (w *walk) leave(height int) api.Errno {
	if !w.shape.Never && w.left != height {
		return api.ErrJoin
	}
	w.shape.Never, w.left = false, height
	return api.OK
}

// come comes to an address, from the instruction at another one.
func (w *walk) come(from, to uint16, s state) api.Errno {
	there, is := w.stands[to]
	switch {
	case !is:
		w.stand(to, s)
	case there.like(s):
	case to <= from:
		return api.ErrLoop
	default:
		return api.ErrJoin
	}
	return api.OK
}
