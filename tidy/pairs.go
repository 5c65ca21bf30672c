package tidy

import (
	"wisp/api"
	"wisp/num"
)

// undoing are the pairs of primitives that undo one another.
var undoing = [...][2]int{
	{api.OpSwap, api.OpSwap},
	{api.OpNegate, api.OpNegate},
	{api.OpInvert, api.OpInvert},
	{api.OpInc, api.OpDec},
	{api.OpDec, api.OpInc},
	{api.OpToR, api.OpFromR},
	{api.OpFromR, api.OpToR},
	{api.OpDup, api.OpDrop},
	{api.OpOver, api.OpDrop},
	{api.OpI, api.OpDrop},
	{api.OpJ, api.OpDrop},
	{api.OpRFetch, api.OpDrop},
	{api.OpPad, api.OpDrop},
	{api.OpDup, api.OpNip},
}

// undoes tells whether the second primitive undoes the first.
func undoes(one, two int) bool {
	for _, pair := range undoing {
		if pair == [2]int{one, two} {
			return true
		}
	}
	return false
}

// idles tells whether a number and a primitive behind it leave all as it was.
func idles(n uint16, op int) bool {
	switch op {
	case api.OpDrop:
		return true
	case api.OpAdd, api.OpSub, api.OpOr, api.OpXor, api.OpLShift, api.OpRShift:
		return n == 0
	case api.OpMul, api.OpDiv, api.OpUDiv:
		return n == 1
	case api.OpAnd:
		return n == ones
	}
	return false
}

// ones is the cell whose bits are all set: -1, if it is signed.
const ones = 65535

// ofNumber tells the primitive that does what a number and a primitive behind it do; 0, if there is none.
func ofNumber(n uint16, op int) int {
	switch {
	case n == 1 && op == api.OpAdd, n == ones && op == api.OpSub:
		return api.OpInc
	case n == 1 && op == api.OpSub, n == ones && op == api.OpAdd:
		return api.OpDec
	case n == 2 && op == api.OpMul:
		return api.OpTwice
	case n == ones && op == api.OpMul:
		return api.OpNegate
	case n == 0 && op == api.OpEq:
		return api.OpZero
	case n == 0 && op == api.OpLt:
		return api.OpNeg
	}
	return 0
}

// shorter are pairs of primitives, each with the one that does the same.
var shorter = [...]struct {
	pair [2]int
	one  int
}{
	{[2]int{api.OpSwap, api.OpDrop}, api.OpNip},
	{[2]int{api.OpDrop, api.OpDrop}, api.OpDrop2},
	{[2]int{api.OpOver, api.OpOver}, api.OpDup2},
	{[2]int{api.OpDup, api.OpAdd}, api.OpTwice},
	{[2]int{api.OpSwap, api.OpOver}, api.OpTuck},
	{[2]int{api.OpSwap, api.OpLt}, api.OpGt},
	{[2]int{api.OpSwap, api.OpGt}, api.OpLt},
	{[2]int{api.OpSwap, api.OpULt}, api.OpUGt},
	{[2]int{api.OpSwap, api.OpUGt}, api.OpULt},
}

// ofPair tells the primitive that does what two do; 0, if there is none.
func ofPair(one, two int) int {
	for _, row := range shorter {
		if row.pair == [2]int{one, two} {
			return row.one
		}
	}
	if one == api.OpSwap && eitherWay(two) {
		return two
	}
	if two == api.OpDrop {
		return dropped(one)
	}
	return 0
}

// eitherWay tells whether a primitive makes the same of two cells, whichever is the lower.
func eitherWay(op int) bool {
	switch op {
	case api.OpAdd, api.OpMul, api.OpAnd, api.OpOr, api.OpXor, api.OpEq, api.OpNe, api.OpMin, api.OpMax:
		return true
	}
	return false
}

// dropped tells what drops the cells of which a primitive makes one that is dropped; 0, if it does more than that.
func dropped(op int) int {
	if _, is := num.Unary(op, 0); is || op == api.OpFetch || op == api.OpCFetch {
		return api.OpDrop
	}
	if _, is := num.Binary(op, 0, 0); is {
		return api.OpDrop2
	}
	return 0
}
