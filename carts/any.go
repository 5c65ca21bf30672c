package carts

import (
	"maps"
	"slices"

	"wisp/api"
	"wisp/sources"
)

// Any is a cartridge of some words that branch and call one another, most of which are in order; or of a few small numbers, which are cells of all sorts at once.
func Any(d sources.Dice) api.Cart {
	if d.Intn(4) == 0 {
		return scraps(d)
	}
	s := &shelf{Dice: d, cells: Threads()}
	for range 1 + d.Intn(3) {
		s.constant()
	}
	for range 1 + d.Intn(6) {
		s.word()
	}
	s.close()
	return s.cart()
}

// Changed is a copy of a source's cartridge in which so many of the cells behind the first 64 are primitives' threads now.
func Changed(d sources.Dice, c api.Cart, many int) api.Cart {
	c.Code = slices.Clone(c.Code)
	for range many {
		at := 128 + 2*d.Intn(len(c.Code)/2-64)
		c.Code[at], c.Code[at+1] = byte(2*d.Intn(64)), 0
	}
	return c
}

// Declared is a cartridge with just the effects that these shapes say, by their addresses.
func Declared(c api.Cart, shapes map[uint16]api.Shape) api.Cart {
	c.Effects = nil
	for _, at := range slices.Sorted(maps.Keys(shapes)) {
		c.Effects = append(c.Effects, api.Effect{At: at, In: shapes[at].In, Out: shapes[at].Out})
	}
	return c
}

// Budget is a frame's, small more often than not: so frames are cut in the midst of what is played.
func Budget(d sources.Dice) int {
	switch d.Intn(12) {
	case 0:
		return 4 + d.Intn(16381)
	case 1, 2:
		return 4 + d.Intn(500)
	}
	return 4 + d.Intn(30)
}

// scraps is short code of primitives' numbers and of addresses in it.
func scraps(d sources.Dice) api.Cart {
	cells := make([]uint16, 2+d.Intn(12))
	for i := range cells {
		cells[i] = uint16(2 * d.Intn(len(cells)))
		if d.Intn(3) == 0 {
			cells[i] = uint16(d.Intn(14))
		}
	}
	entry := d.Intn(len(cells))
	cells[entry] = 1
	return api.Cart{Code: Code(cells...), Entry: uint16(2 * entry)}
}

// shelf is code that is being written. Addresses that hang on what comes behind stay open till all is there.
type shelf struct {
	sources.Dice
	cells            []uint16
	constants, words []uint16 // code fields
	instrs, operands []uint16 // addresses, of all words
	first            int      // of the word that is being written, which of instrs is its first
	open             []branch
	calls            []int // which cells are to be the code fields of words
}

// branch is an operand that is still open: which cell it is, and which instructions its word has.
type branch struct{ cell, from, to int }

func (s *shelf) here() uint16 { return uint16(2 * len(s.cells)) }

func (s *shelf) put(cells ...uint16) { s.cells = append(s.cells, cells...) }

func (s *shelf) constant() {
	s.constants = append(s.constants, s.here())
	s.put(2, uint16(s.Intn(65536)))
}

func (s *shelf) word() {
	s.words = append(s.words, s.here())
	s.first = len(s.instrs)
	s.put(1)
	opened := len(s.open)
	for range s.Intn(9) {
		s.instr()
	}
	s.instrs = append(s.instrs, s.here())
	switch s.Intn(12) {
	case 0:
		s.branch(8)
	case 1:
		s.put(22)
	case 2: // it falls out of the word
	default:
		s.put(16)
	}
	for i := range s.open[opened:] {
		s.open[opened+i].to = len(s.instrs)
	}
}

// instr is one of those in the midst of a word.
func (s *shelf) instr() {
	s.instrs = append(s.instrs, s.here())
	switch s.Intn(12) {
	case 0, 1:
		s.operands = append(s.operands, s.here()+2)
		s.put(6, uint16(2*s.Intn(70)))
	case 2, 3:
		s.branch(10)
	case 4:
		s.branch(uint16(8 + 6*s.Intn(2)))
	case 5:
		s.put(s.constants[s.Intn(len(s.constants))])
	case 6, 7:
		s.calls = append(s.calls, len(s.cells))
		s.put(0)
	default:
		s.put(uint16(2 * (9 + s.Intn(55))))
	}
}

func (s *shelf) branch(thread uint16) {
	s.operands = append(s.operands, s.here()+2)
	s.put(thread)
	s.open = append(s.open, branch{cell: len(s.cells), from: s.first})
	s.put(0)
}

// close fills in what is open: now and then with what may not be.
func (s *shelf) close() {
	for _, x := range s.open {
		s.cells[x.cell] = s.instrs[x.from+s.Intn(x.to-x.from)]
		switch s.Intn(40) {
		case 0:
			s.cells[x.cell] = uint16(s.Intn(2 * len(s.cells)))
		case 1:
			s.cells[x.cell] = s.instrs[s.Intn(len(s.instrs))]
		case 2, 3:
			s.cells[x.cell] = s.operands[s.Intn(len(s.operands))]
		case 4:
			s.cells[x.cell] = s.here() - 2 + uint16(2*s.Intn(3))
		}
	}
	for _, cell := range s.calls {
		s.cells[cell] = s.words[s.Intn(len(s.words))]
	}
}

// cart is what has been written, now and then with a cell changed or with its end cut off.
func (s *shelf) cart() api.Cart {
	if s.Intn(6) == 0 {
		s.cells[s.Intn(len(s.cells))] = uint16(s.Intn(2 * len(s.cells)))
	}
	if s.Intn(8) == 0 {
		s.cells = s.cells[:len(s.cells)-s.Intn(8)]
	}
	c := api.Cart{Code: Code(s.cells...), Entry: s.words[s.Intn(len(s.words))]}
	if s.Intn(60) == 0 {
		c.Entry = uint16(s.Intn(int(s.here()) + 8))
	}
	return c
}
