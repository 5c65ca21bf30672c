package effect

import (
	"wisp/api"
	"wisp/prim"
)

// fault is a rule that does not hold, and where.
type fault struct {
	e   api.Errno
	pos api.Pos
}

// must ends the walk through a word at a place, if a rule does not hold there.
func must(holds bool, e api.Errno, at api.Pos) {
	if !holds {
		panic(fault{e, at})
	}
}

// state is how the stacks stand, against how they stood at the word's begin. It is a value: a body may be gone through from the same one as another, and two are held against each other as a whole.
type state struct {
	dead   bool // nothing comes here
	height int
	own    string // the kinds of the own cells, a byte each, the last one on top
}

// kind tells that of the own cell so far below the top; 0, if there is none.
func (s state) kind(below int) byte {
	if below >= len(s.own) {
		return 0
	}
	return s.own[len(s.own)-1-below]
}

// walk goes through one word.
type walk struct {
	at    map[string]int // where each word's name stands in the program
	ahead []Typed        // the words ahead of it
	shape api.Shape      // In, Data and Return as they have grown; Never, till an exit has a height
	left  int            // the exits' height
}

// typedOf tells a word's shape, or the first fault that is met in it.
func typedOf(d api.Def, at map[string]int, ahead []Typed) (t Typed) {
	defer func() {
		if given := recover(); given != nil {
			why := given.(fault)
			t = Typed{Name: d.Name, Err: why.e, Pos: why.pos}
		}
	}()
	w := &walk{at: at, ahead: ahead, shape: api.Shape{Never: true}}
	return Typed{Name: d.Name, Shape: w.word(d)}
}

func (w *walk) word(d api.Def) api.Shape {
	if end := w.body(d.Body, state{}); !end.dead {
		w.leave(end, d.Pos)
	}
	shape := w.shape
	if !shape.Never {
		// Only now is In all that the word takes, wherever the exit stood.
		shape.Out = shape.In + w.left
		must(shape.Out <= api.MaxData, api.ErrDepth, d.Pos)
	}
	return shape
}

// body goes through nodes from a state on, as far as anything comes there.
func (w *walk) body(nodes []api.Node, s state) state {
	for _, n := range nodes {
		if s.dead {
			return s
		}
		s = w.node(n, s)
	}
	return s
}

func (w *walk) node(n api.Node, s state) state {
	switch n.Kind {
	case api.NodePrim:
		return w.primitive(n, s)
	case api.NodeLit:
		return w.step(s, 0, 1, n.Pos)
	case api.NodeCall:
		return w.call(n, s)
	case api.NodeIf:
		return w.choice(n, s)
	case api.NodeUntil:
		return w.until(n, s)
	case api.NodeWhile:
		return w.while(n, s)
	case api.NodeAgain:
		return w.again(n, s)
	case api.NodeDo:
		return w.do(n, s)
	}
	w.leave(s, n.Pos)
	return state{dead: true}
}

// grow lets the three numbers be at least these.
func (w *walk) grow(in, data, ret int, at api.Pos) {
	s := &w.shape
	s.In, s.Data, s.Return = max(s.In, in), max(s.Data, data), max(s.Return, ret)
	must(s.In <= api.MaxData && s.Data <= api.MaxData && s.Return <= api.MaxReturn, api.ErrDepth, at)
}

// step takes cells from the data stack and leaves others there.
func (w *walk) step(s state, in, out int, at api.Pos) state {
	w.grow(in-s.height, s.height-in+out, 0, at)
	s.height += out - in
	return s
}

// put lets the own cells become more.
func (w *walk) put(s state, at api.Pos, kinds ...byte) state {
	s.own += string(kinds)
	w.grow(0, 0, len(s.own), at)
	return s
}

func (w *walk) primitive(n api.Node, s state) state {
	must(returnFits(n.Op, s), api.ErrReturn, n.Pos)
	// No error: tree.Check takes none but primitives.
	row, _ := prim.Of(n.Op)
	s = w.step(s, row.In, row.Out, n.Pos)
	switch n.Op {
	case api.OpToR:
		return w.put(s, n.Pos, api.KindSaved)
	case api.OpFromR:
		s.own = s.own[:len(s.own)-1]
	case api.OpHalt:
		s.dead = true
	}
	return s
}

// returnFits tells whether the own cells are such as a primitive looks at.
func returnFits(op int, s state) bool {
	switch op {
	case api.OpFromR, api.OpRFetch:
		return s.kind(0) == api.KindSaved
	case api.OpI:
		return s.kind(0) == api.KindIndex
	case api.OpJ:
		return s.kind(2) == api.KindIndex
	}
	return true
}

// call is a name: of a word, or of a constant, a variable, a buffer.
func (w *walk) call(n api.Node, s state) state {
	i, isWord := w.at[n.Name]
	if !isWord {
		return w.step(s, 0, 1, n.Pos)
	}
	t := w.ahead[i]
	must(t.Err == api.OK, t.Err, n.Pos)
	// The cell more is the one to which the word comes back.
	w.grow(t.Shape.In-s.height, s.height+t.Shape.Data, len(s.own)+1+t.Shape.Return, n.Pos)
	s.height += t.Shape.Out - t.Shape.In
	s.dead = t.Shape.Never
	return s
}

// leave is an exit, or the end of the word.
func (w *walk) leave(s state, at api.Pos) {
	must(s.own == "", api.ErrReturn, at)
	must(w.shape.Never || w.left == s.height, api.ErrJoin, at)
	w.shape.Never, w.left = false, s.height
}

// choice is an if; one without an else is as one with an empty else.
func (w *walk) choice(n api.Node, s state) state {
	s = w.step(s, 1, 0, n.Pos)
	one := w.body(n.Then, s)
	two := w.body(n.Else, s)
	if one.dead {
		return two
	}
	must(two.dead || one == two, api.ErrJoin, n.Pos)
	return one
}

// back is the end of a round of a loop, from which the next one begins.
func back(end, begin state, at api.Pos) {
	must(end.dead || end == begin, api.ErrLoop, at)
}

func (w *walk) until(n api.Node, s state) state {
	end := w.body(n.Then, s)
	if end.dead {
		return end
	}
	end = w.step(end, 1, 0, n.Pos)
	back(end, s, n.Pos)
	return end
}

func (w *walk) while(n api.Node, s state) state {
	asked := w.body(n.Then, s)
	if asked.dead {
		return asked
	}
	asked = w.step(asked, 1, 0, n.Pos)
	back(w.body(n.Else, asked), s, n.Pos)
	return asked
}

func (w *walk) again(n api.Node, s state) state {
	back(w.body(n.Then, s), s, n.Pos)
	return state{dead: true}
}

func (w *walk) do(n api.Node, s state) state {
	s = w.step(s, 2, 0, n.Pos)
	inside := w.put(s, n.Pos, api.KindLimit, api.KindIndex)
	end := w.body(n.Then, inside)
	back(end, inside, n.Pos)
	s.dead = end.dead
	return s
}
