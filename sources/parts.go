// Package sources is for tests alone: sources of all sorts, each with the cells that chapter 13 says it comes to, so that a layer's answer can be held to a second reckoning.
package sources

import (
	"strconv"
	"strings"
)

// Part is a piece of a source, and what the document says that it comes to, as words: a number is a cell; x: is no cell, but marks the place of the next one; x> is the address of that mark.
type Part struct{ Src, Cells string }

// Row is one of 13.2's table that has bodies: A and B stand for them.
type Row Part

// Rows are all of them.
func Rows() []Row {
	return []Row{
		{"if A then", "10 end> A end:"},
		{"if A else B then", "10 b> A 8 end> b: B end:"},
		{"begin A until", "a: A 10 a>"},
		{"begin A while B repeat", "a: A 10 end> B 8 a> end:"},
		{"begin A again", "a: A 8 a>"},
		{"do A loop", "12 a: A 14 a>"},
	}
}

// Twofold tells whether it has two bodies.
func (r Row) Twofold() bool { return strings.Contains(r.Src, "B") }

// Primitives are the names in the order of DOC.md's table, from number 9 on.
const Primitives = "nop yield halt dup drop swap over rot nip tuck 2dup 2drop + - * / mod u/ umod negate abs min max 1+ 1- 2* 2/ and or xor invert lshift rshift = <> < > u< u> 0= 0< @ ! c@ c! +! >r r> r@ i j plot pad tone bank"

// Primitive is that of a number from 9 on.
func Primitive(op int) Part {
	return Part{strings.Fields(Primitives)[op-9], strconv.Itoa(2 * op)}
}

// Number is one in a body.
func Number(x uint16) Part {
	s := strconv.Itoa(int(x))
	return Part{s, "6 " + s}
}

// Name is that of a definition.
func Name(s string) Part { return Part{s, s + ">"} }

// Exit is the word.
func Exit() Part { return Part{"exit", "16"} }

// Behind is parts one behind the other.
func Behind(list ...Part) Part {
	var src, cells strings.Builder
	for i, p := range list {
		src.WriteString(p.Src + " ")
		cells.WriteString(p.placed(strconv.Itoa(i)) + " ")
	}
	return Part{src.String(), cells.String()}
}

// placed is a part's cells where it is the one of that name among others: the marks of its rows, which have a #, are made its own, so that it may stand in many places.
func (p Part) placed(as string) string {
	if !strings.Contains(p.Cells, "#") {
		return p.Cells
	}
	words := strings.Fields(p.Cells)
	for i, x := range words {
		if strings.Contains(x, "#") {
			words[i] = as + "." + x
		}
	}
	return strings.Join(words, " ")
}

// Around is a row with its bodies in it.
func (r Row) Around(a, b Part) Part {
	src := strings.NewReplacer("A", a.Src, "B", b.Src).Replace(r.Src)
	cells := strings.NewReplacer(":", "#:", ">", "#>", "A", a.placed("A"), "B", b.placed("B")).Replace(r.Cells)
	return Part{src, cells}
}
