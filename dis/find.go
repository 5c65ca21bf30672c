package dis

import (
	"wisp/api"
	"wisp/flow"
)

// finder finds the structures of a word's instructions again, and gives up where they are none.
type finder struct {
	instrs []flow.Instr // the word's own exit is the last
	taken  int          // how many of them have been taken
	called func(at uint16) string

	backs map[uint16][]flow.Instr // what leads back to a place and closes a begin there that has not been opened yet; those that close later stand behind
	loops map[uint16]uint16       // where the loop lies that leads to a place
	skips map[uint16]uint16       // where the last zbranch lies that leads on to a place
	overs map[uint16]flow.Instr   // the branch that leads on, by the place behind it
}

func newFinder(instrs []flow.Instr, called func(at uint16) string) *finder {
	f := &finder{
		instrs: instrs,
		called: called,
		backs:  map[uint16][]flow.Instr{},
		loops:  map[uint16]uint16{},
		skips:  map[uint16]uint16{},
		overs:  map[uint16]flow.Instr{},
	}
	for _, x := range instrs {
		f.note(x)
	}
	return f
}

// note keeps where an instruction leads.
func (f *finder) note(x flow.Instr) {
	back := x.Operand <= x.At
	switch x.Op {
	case api.OpLoop:
		f.loops[x.Operand] = x.At
	case api.OpZBranch:
		if back {
			f.backs[x.Operand] = append(f.backs[x.Operand], x)
		} else {
			f.skips[x.Operand] = x.At
		}
	case api.OpBranch:
		if back {
			f.backs[x.Operand] = append(f.backs[x.Operand], x)
		} else {
			f.overs[x.Next] = x
		}
	}
}

// all tells the nodes ahead of the word's own exit.
func (f *finder) all() []api.Node {
	last := len(f.instrs) - 1
	must(last >= 0 && f.instrs[last].Op == api.OpExit)
	return f.upTo(f.instrs[last].At)
}

// here is the place of the next instruction; the place behind them, when all are taken.
func (f *finder) here() uint16 {
	if f.taken < len(f.instrs) {
		return f.instrs[f.taken].At
	}
	return f.instrs[f.taken-1].Next
}

func (f *finder) take() flow.Instr {
	must(f.taken < len(f.instrs))
	f.taken++
	return f.instrs[f.taken-1]
}

// upTo takes nodes up to a place: one of them must end just there.
func (f *finder) upTo(end uint16) []api.Node {
	var list []api.Node
	for f.here() < end {
		list = append(list, f.node())
	}
	must(f.here() == end)
	return list
}

// upToInstr takes nodes up to an instruction, and the instruction.
func (f *finder) upToInstr(at uint16) []api.Node {
	list := f.upTo(at)
	f.take()
	return list
}

// node takes a node: where begins stand, the outermost that is not open yet.
func (f *finder) node() api.Node {
	here := f.here()
	if backs := f.backs[here]; len(backs) > 0 {
		last := len(backs) - 1
		f.backs[here] = backs[:last]
		return f.begin(backs[last])
	}
	x := f.take()
	switch x.Op {
	case api.OpEnter:
		return api.Node{Kind: api.NodeCall, Name: f.called(x.Word)}
	case api.OpLit:
		return api.Node{Kind: api.NodeLit, Value: x.Operand}
	case api.OpZBranch:
		return f.choice(x)
	case api.OpDo:
		return f.do()
	case api.OpExit:
		return api.Node{Kind: api.NodeExit}
	case api.OpBranch, api.OpLoop:
		must(false)
	}
	return api.Node{Kind: api.NodePrim, Op: x.Op}
}

// begin takes the structure that is closed by what leads back to here.
func (f *finder) begin(back flow.Instr) api.Node {
	if back.Op == api.OpZBranch {
		return api.Node{Kind: api.NodeUntil, Then: f.upToInstr(back.At)}
	}
	if skip, is := f.skips[back.Next]; is && skip >= back.Operand {
		ahead := f.upToInstr(skip)
		return api.Node{Kind: api.NodeWhile, Then: ahead, Else: f.upToInstr(back.At)}
	}
	return api.Node{Kind: api.NodeAgain, Then: f.upToInstr(back.At)}
}

// choice takes what stands behind the zbranch that opens an if.
func (f *finder) choice(open flow.Instr) api.Node {
	over, has := f.elseOf(open)
	if !has {
		return api.Node{Kind: api.NodeIf, Then: f.upTo(open.Operand)}
	}
	then := f.upToInstr(over.At)
	return api.Node{Kind: api.NodeIf, Then: then, Else: f.upTo(over.Operand), Has: true}
}

// elseOf tells the branch that is an if's else. One that leads just behind itself is that of the innermost if that ends there.
func (f *finder) elseOf(open flow.Instr) (flow.Instr, bool) {
	over, is := f.overs[open.Operand]
	if is && over.Operand == over.Next {
		is = f.skips[over.Next] == open.At
	}
	return over, is
}

// do takes what stands behind it: the loop leads to there.
func (f *finder) do() api.Node {
	loop, is := f.loops[f.here()]
	must(is)
	return api.Node{Kind: api.NodeDo, Then: f.upToInstr(loop)}
}
