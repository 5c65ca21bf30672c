package prim

import (
	"wisp/api"
	"wisp/mem"
	"wisp/num"
	"wisp/stack"
)

// entry is a primitive: its row, what it asks of the return stack, and what it does.
type entry struct {
	row   api.Prim
	kind  int        // of the cell of the return stack that it looks at; 0: it looks at none
	below int        // how far below the top that cell stands
	saves int        // how many cells it puts on the return stack
	does  func(work) // nil: it is not plain
}

// work is what a primitive has at hand: the cells that it has taken, the lowest first (x y z, whatever the effect calls them), the cell of the return stack that it has looked at, and where all else stands. It is handed on as a value: through a pointer each instruction would need new memory.
type work struct {
	op      int
	x, y, z uint16
	seen    uint16
	data    *stack.Data
	ret     *stack.Return
	space   *mem.Memory
}

// put leaves cells, the last one on top. There is room: the fault of there being none was looked for.
func (w work) put(x ...uint16) {
	w.data.Push(x...)
}

// save puts cells on the return stack; here too there is room.
func (w work) save(x ...api.Cell) {
	w.ret.Push(x...)
}

// entryOf makes the entry of a primitive; of what is none it is the zero entry. (All of them in one table would be more than a package variable may hold.)
func entryOf(op int) entry {
	switch {
	case op <= api.OpHalt:
		return ofControl(op)
	case op <= api.OpDrop2:
		return ofOrder(op)
	case op <= api.OpHalf:
		return ofNumbers(op)
	case op <= api.OpNeg:
		return ofBits(op)
	case op <= api.OpPlus:
		return ofMemory(op)
	case op <= api.OpJ:
		return ofReturn(op)
	}
	return ofDevices(op)
}

// row is a row of the table, of a primitive that no cell follows in the code.
func row(op int, name string, in, out, cost int) api.Prim {
	return api.Prim{Op: op, Name: name, In: in, Out: out, Cost: cost}
}

// withOperand is an entry of one that a cell follows in the code; none of these is plain or has a name.
func withOperand(op, in, out, cost int) entry {
	p := row(op, "", in, out, cost)
	p.Operand = true
	return entry{row: p}
}

// ofControl makes the entries of what says where the machine goes on; all but two are not plain.
func ofControl(op int) entry {
	switch op {
	case api.OpEnter, api.OpExit:
		return entry{row: row(op, "", 0, 0, 2)}
	case api.OpConst:
		return entry{row: row(op, "", 0, 1, 2)}
	case api.OpLit:
		return withOperand(op, 0, 1, 2)
	case api.OpBranch:
		return withOperand(op, 0, 0, 2)
	case api.OpZBranch:
		return withOperand(op, 1, 0, 2)
	case api.OpLoop:
		return withOperand(op, 0, 0, 3)
	case api.OpDo:
		return entry{row: row(op, "", 2, 0, 3), saves: 2, does: func(w work) {
			w.save(api.Cell{Kind: api.KindLimit, Value: w.x}, api.Cell{Kind: api.KindIndex, Value: w.y})
		}}
	case api.OpNop:
		return entry{row: row(op, "nop", 0, 0, 1), does: func(work) {}}
	case api.OpYield:
		return entry{row: row(op, "yield", 0, 0, 1)}
	case api.OpHalt:
		return entry{row: row(op, "halt", 0, 0, 1)}
	}
	return entry{}
}

// ofOrder makes the entries of what doubles, drops and turns cells.
func ofOrder(op int) entry {
	switch op {
	case api.OpDup:
		return entry{row: row(op, "dup", 1, 2, 1), does: func(w work) { w.put(w.x, w.x) }}
	case api.OpDrop:
		return entry{row: row(op, "drop", 1, 0, 1), does: func(work) {}}
	case api.OpSwap:
		return entry{row: row(op, "swap", 2, 2, 1), does: func(w work) { w.put(w.y, w.x) }}
	case api.OpOver:
		return entry{row: row(op, "over", 2, 3, 1), does: func(w work) { w.put(w.x, w.y, w.x) }}
	case api.OpRot:
		return entry{row: row(op, "rot", 3, 3, 1), does: func(w work) { w.put(w.y, w.z, w.x) }}
	case api.OpNip:
		return entry{row: row(op, "nip", 2, 1, 1), does: func(w work) { w.put(w.y) }}
	case api.OpTuck:
		return entry{row: row(op, "tuck", 2, 3, 1), does: func(w work) { w.put(w.y, w.x, w.y) }}
	case api.OpDup2:
		return entry{row: row(op, "2dup", 2, 4, 2), does: func(w work) { w.put(w.x, w.y, w.x, w.y) }}
	case api.OpDrop2:
		return entry{row: row(op, "2drop", 2, 0, 1), does: func(work) {}}
	}
	return entry{}
}

// unary is an entry of what num does to one cell.
func unary(op int, name string) entry {
	return entry{row: row(op, name, 1, 1, 1), does: func(w work) {
		z, _ := num.Unary(w.op, w.x)
		w.put(z)
	}}
}

// binary is an entry of what num does to two cells.
func binary(op int, name string, cost int) entry {
	return entry{row: row(op, name, 2, 1, cost), does: func(w work) {
		z, _ := num.Binary(w.op, w.x, w.y)
		w.put(z)
	}}
}

// ofNumbers makes the entries of arithmetic.
func ofNumbers(op int) entry {
	switch op {
	case api.OpAdd:
		return binary(op, "+", 1)
	case api.OpSub:
		return binary(op, "-", 1)
	case api.OpMul:
		return binary(op, "*", 3)
	case api.OpDiv:
		return binary(op, "/", 4)
	case api.OpMod:
		return binary(op, "mod", 4)
	case api.OpUDiv:
		return binary(op, "u/", 4)
	case api.OpUMod:
		return binary(op, "umod", 4)
	case api.OpNegate:
		return unary(op, "negate")
	case api.OpAbs:
		return unary(op, "abs")
	case api.OpMin:
		return binary(op, "min", 1)
	case api.OpMax:
		return binary(op, "max", 1)
	case api.OpInc:
		return unary(op, "1+")
	case api.OpDec:
		return unary(op, "1-")
	case api.OpTwice:
		return unary(op, "2*")
	case api.OpHalf:
		return unary(op, "2/")
	}
	return entry{}
}

// ofBits makes the entries of what takes cells bit by bit, and of comparison.
func ofBits(op int) entry {
	switch op {
	case api.OpAnd:
		return binary(op, "and", 1)
	case api.OpOr:
		return binary(op, "or", 1)
	case api.OpXor:
		return binary(op, "xor", 1)
	case api.OpInvert:
		return unary(op, "invert")
	case api.OpLShift:
		return binary(op, "lshift", 1)
	case api.OpRShift:
		return binary(op, "rshift", 1)
	case api.OpEq:
		return binary(op, "=", 1)
	case api.OpNe:
		return binary(op, "<>", 1)
	case api.OpLt:
		return binary(op, "<", 1)
	case api.OpGt:
		return binary(op, ">", 1)
	case api.OpULt:
		return binary(op, "u<", 1)
	case api.OpUGt:
		return binary(op, "u>", 1)
	case api.OpZero:
		return unary(op, "0=")
	case api.OpNeg:
		return unary(op, "0<")
	}
	return entry{}
}

// ofMemory makes the entries of what reads and writes at an address, which is always the cell on top.
func ofMemory(op int) entry {
	switch op {
	case api.OpFetch:
		return entry{row: row(op, "@", 1, 1, 2), does: func(w work) { w.put(w.space.Cell(w.x)) }}
	case api.OpStore:
		return entry{row: row(op, "!", 2, 0, 2), does: func(w work) { w.space.SetCell(w.y, w.x) }}
	case api.OpCFetch:
		return entry{row: row(op, "c@", 1, 1, 2), does: func(w work) { w.put(uint16(w.space.Load(w.x))) }}
	case api.OpCStore:
		return entry{row: row(op, "c!", 2, 0, 2), does: func(w work) { w.space.Store(w.y, uint8(w.x)) }}
	case api.OpPlus:
		return entry{row: row(op, "+!", 2, 0, 3), does: func(w work) { w.space.SetCell(w.y, w.space.Cell(w.y)+w.x) }}
	}
	return entry{}
}

// peek is an entry of what tells a cell of the return stack, and lets it stay.
func peek(op int, name string, kind, below int) entry {
	return entry{row: row(op, name, 0, 1, 1), kind: kind, below: below, does: func(w work) { w.put(w.seen) }}
}

// ofReturn makes the entries of what has to do with the return stack.
func ofReturn(op int) entry {
	switch op {
	case api.OpToR:
		return entry{row: row(op, ">r", 1, 0, 1), saves: 1, does: func(w work) {
			w.save(api.Cell{Kind: api.KindSaved, Value: w.x})
		}}
	case api.OpFromR:
		return entry{row: row(op, "r>", 0, 1, 1), kind: api.KindSaved, does: func(w work) {
			w.ret.Pop(api.KindSaved)
			w.put(w.seen)
		}}
	case api.OpRFetch:
		return peek(op, "r@", api.KindSaved, 0)
	case api.OpI:
		return peek(op, "i", api.KindIndex, 0)
	case api.OpJ:
		return peek(op, "j", api.KindIndex, 2)
	}
	return entry{}
}

// ofDevices makes the entries of screen, gamepad, sound and banks.
func ofDevices(op int) entry {
	switch op {
	case api.OpPlot:
		return entry{row: row(op, "plot", 3, 0, 3), does: func(w work) { w.space.Plot(w.x, w.y, w.z) }}
	case api.OpPad:
		return entry{row: row(op, "pad", 0, 1, 1), does: func(w work) { w.put(uint16(w.space.Pad())) }}
	case api.OpTone:
		return entry{row: row(op, "tone", 2, 0, 2), does: func(w work) { w.space.Play(w.x, uint8(w.y)) }}
	case api.OpBank:
		return entry{row: row(op, "bank", 1, 0, 1), does: func(w work) { w.space.Choose(w.x) }}
	}
	return entry{}
}
