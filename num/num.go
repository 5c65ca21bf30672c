// Package num is layer 1: cells of sixteen bits: see shared/doc/01-num.md.
package num

import "wisp/api"

// least is the lowest cell that stands for a number below 0; span is how many cells there are.
const (
	least = 32768
	span  = 65536
)

// Signed tells a cell as a number from -32768 to 32767.
func Signed(x uint16) int {
	if x < least {
		return int(x)
	}
	return int(x) - span
}

// Cell tells a number's lowest sixteen bits.
func Cell(n int) uint16 {
	// Go's conversion keeps the low bits of a negative number too: just the multiple of 65536 is lost.
	return uint16(n)
}

// Flag tells 65535 for true, 0 for false.
func Flag(b bool) uint16 {
	if b {
		return span - 1
	}
	return 0
}

// Unary does a primitive of one cell; false: it is none.
func Unary(op int, x uint16) (uint16, bool) {
	n := Signed(x)
	switch op {
	case api.OpAbs:
		if n >= 0 {
			return x, true
		}
		fallthrough
	case api.OpNegate:
		// Of the least, 32768 comes out, which is the least again: no case of its own is needed.
		return Cell(-n), true
	case api.OpInc:
		return Cell(n + 1), true
	case api.OpDec:
		return Cell(n - 1), true
	case api.OpTwice:
		return Cell(n + n), true
	case api.OpHalf:
		// A shift goes towards the lesser; a division would go towards 0.
		return Cell(n >> 1), true
	case api.OpInvert:
		return ^x, true
	case api.OpZero:
		return Flag(x == 0), true
	case api.OpNeg:
		return Flag(n < 0), true
	}
	return 0, false
}

// Binary does a primitive of two cells; false: it is none.
func Binary(op int, x, y uint16) (uint16, bool) {
	if z, ok := bitwise(op, x, y); ok {
		return z, true
	}
	if z, ok := arithmetic(op, x, y); ok {
		return z, true
	}
	return comparison(op, x, y)
}

// bitwise does what takes cells as bits.
func bitwise(op int, x, y uint16) (uint16, bool) {
	switch op {
	case api.OpAnd:
		return x & y, true
	case api.OpOr:
		return x | y, true
	case api.OpXor:
		return x ^ y, true
	case api.OpLShift:
		// Go's shifts by 16 and more leave 0 of a cell, as is asked.
		return x << y, true
	case api.OpRShift:
		return x >> y, true
	}
	return 0, false
}

// arithmetic does what takes cells as numbers. Signed and unsigned division differ by how the cells are read alone, so one falls through to the other.
func arithmetic(op int, x, y uint16) (uint16, bool) {
	n, m := Signed(x), Signed(y)
	switch op {
	case api.OpSub:
		m = -m
		fallthrough
	case api.OpAdd:
		return Cell(n + m), true
	case api.OpMul:
		return Cell(n * m), true
	case api.OpUDiv:
		n, m = int(x), int(y)
		fallthrough
	case api.OpDiv:
		return quotient(n, m), true
	case api.OpUMod:
		n, m = int(x), int(y)
		fallthrough
	case api.OpMod:
		return remainder(n, m), true
	case api.OpMin:
		return Cell(min(n, m)), true
	case api.OpMax:
		return Cell(max(n, m)), true
	}
	return 0, false
}

// comparison does what answers a flag; here too the unsigned ones read the cells otherwise and fall through.
func comparison(op int, x, y uint16) (uint16, bool) {
	n, m := Signed(x), Signed(y)
	switch op {
	case api.OpEq:
		return Flag(x == y), true
	case api.OpNe:
		return Flag(x != y), true
	case api.OpULt:
		n, m = int(x), int(y)
		fallthrough
	case api.OpLt:
		return Flag(n < m), true
	case api.OpUGt:
		n, m = int(x), int(y)
		fallthrough
	case api.OpGt:
		return Flag(n > m), true
	}
	return 0, false
}

// quotient leaves off what is behind the point. An int holds 32768, so the least by -1 needs no case of its own.
func quotient(n, m int) uint16 {
	if m == 0 {
		return 0
	}
	return Cell(n / m)
}

// remainder has n's sign, as Go's has.
func remainder(n, m int) uint16 {
	if m == 0 {
		return 0
	}
	return Cell(n % m)
}
