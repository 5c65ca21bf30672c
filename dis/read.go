package dis

import (
	"slices"

	"wisp/api"
	"wisp/flow"
	"wisp/prim"
)

const (
	cellSize = 2
	threads  = cellSize * api.Ops // bytes of the primitives' threads, which lie ahead of all definitions
)

// reader takes the cells of code one behind the other.
type reader struct {
	code  []byte
	entry uint16
	at    uint16 // where the next cell lies
	defs  []api.Def
	known map[uint16]int // the definitions that stand wholly ahead, by their code fields
}

// read gives up at the first cell that no source makes there. Of some others it asks nothing: they show in the program's code.
func read(c api.Cart) (p api.Program, e api.Errno) {
	defer func() {
		if given := recover(); given != nil {
			p, e = api.Program{}, given.(api.Errno)
		}
	}()
	must(len(c.Code) <= api.MaxCode)
	r := &reader{code: c.Code, entry: c.Entry, at: threads, known: map[uint16]int{}}
	for r.more() {
		r.define()
	}
	return api.Program{Defs: r.defs, Banks: banksOf(c.Banks)}, api.OK
}

// must ends the reader, if what it has found may not be.
func must(may bool) {
	if !may {
		panic(api.ErrShape)
	}
}

// banksOf copies the bytes too: a program shares none with its cartridge.
func banksOf(banks []api.Bank) []api.Bank {
	var copies []api.Bank
	for _, b := range banks {
		copies = append(copies, api.Bank{Num: b.Num, Data: slices.Clone(b.Data)})
	}
	return copies
}

func (r *reader) more() bool {
	return int(r.at) < len(r.code)
}

// cell takes one.
func (r *reader) cell() uint16 {
	x := r.peek()
	r.at += cellSize
	return x
}

func (r *reader) peek() uint16 {
	must(int(r.at)+1 < len(r.code))
	return uint16(r.code[r.at]) + uint16(r.code[r.at+1])<<8
}

// define takes a definition. Its own name is known behind it alone.
func (r *reader) define() {
	at := r.at
	var d api.Def
	switch r.cell() {
	case api.OpEnter:
		d = api.Def{Kind: api.DefWord, Name: r.wordName(at), Body: r.body()}
	case api.OpConst:
		d = api.Def{Kind: api.DefConstant, Name: "k" + digits(at), Value: r.cell()}
	default:
		must(false)
	}
	r.known[at] = len(r.defs)
	r.defs = append(r.defs, d)
}

func (r *reader) wordName(at uint16) string {
	if at == r.entry {
		return "main"
	}
	return "w" + digits(at)
}

// body takes a word's instructions, which go up to the next definition or to the end, and tells its nodes.
func (r *reader) body() []api.Node {
	var instrs []flow.Instr
	for r.more() && r.peek() != api.OpEnter && r.peek() != api.OpConst {
		instrs = append(instrs, r.instr())
	}
	return newFinder(instrs, r.called).all()
}

// called tells the name of the definition with that code field, which is known.
func (r *reader) called(at uint16) string {
	return r.defs[r.known[at]].Name
}

// instr takes an instruction: what names a definition is a call of it, whatever it defines; all else is a thread, but none of enter or const, which only a definition has.
func (r *reader) instr() flow.Instr {
	x := flow.Instr{At: r.at}
	thread := r.cell()
	if _, is := r.known[thread]; is {
		x.Op, x.Word = api.OpEnter, thread
	} else {
		p, e := prim.Of(int(thread) / cellSize)
		must(e == api.OK && p.Op > api.OpConst && thread%cellSize == 0)
		x.Op = p.Op
		if p.Operand {
			x.Operand = r.cell()
		}
	}
	x.Next = r.at
	return x
}
