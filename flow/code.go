package flow

import (
	"wisp/api"
	"wisp/prim"
)

// cellSize is how many bytes of the code a cell has.
const cellSize = 2

// code is a cartridge's, as it is read here.
type code []byte

// cell tells the cell at an address, and whether it is in the code.
func (c code) cell(at uint16) (uint16, bool) {
	if at%cellSize != 0 || int(at)+1 >= len(c) {
		return 0, false
	}
	return uint16(c[at]) + uint16(c[at+1])<<8, true
}

// instr tells the instruction at an address, or why there is none.
func (c code) instr(at uint16) (Instr, api.Errno) {
	thread, is := c.cell(at)
	if !is {
		return Instr{}, api.ErrFall
	}
	op, is := c.cell(thread)
	if !is {
		return Instr{}, api.ErrOpcode
	}
	p, e := prim.Of(int(op))
	if e != api.OK {
		return Instr{}, api.ErrOpcode
	}
	x := Instr{At: at, Op: p.Op, Next: at + cellSize}
	switch {
	case p.Operand:
		x.Operand, is = c.cell(x.Next)
		x.Next += cellSize
	case p.Op == api.OpConst:
		x.Operand, is = c.cell(thread + cellSize)
		x.Word = thread
	case p.Op == api.OpEnter:
		x.Word = thread
	}
	if !is {
		return Instr{}, api.ErrFall
	}
	if !c.leadsToCells(x) {
		return Instr{}, api.ErrTarget
	}
	return x, api.OK
}

// leadsToCells tells whether an instruction's operand, if it is a place to go on at, is in the code.
func (c code) leadsToCells(x Instr) bool {
	switch x.Op {
	case api.OpBranch, api.OpZBranch, api.OpLoop:
		_, is := c.cell(x.Operand)
		return is
	}
	return true
}

// waysOn are the addresses to which an instruction leads on.
func waysOn(x Instr) []uint16 {
	switch x.Op {
	case api.OpExit, api.OpHalt:
		return nil
	case api.OpBranch:
		return []uint16{x.Operand}
	case api.OpZBranch, api.OpLoop:
		return []uint16{x.Next, x.Operand}
	}
	return []uint16{x.Next}
}

// operandAt is where an instruction's operand lies in the code, and whether it has one there.
func operandAt(x Instr) (uint16, bool) {
	// No error: it is an instruction's.
	p, _ := prim.Of(x.Op)
	return x.At + cellSize, p.Operand
}
