package dis_test

import (
	"slices"
	"strings"
	"testing"

	"wisp/api"
	"wisp/dis"
	"wisp/layout"
	"wisp/sources"
	"wisp/tree"
)

// A second reckoning of P23.2: every way in which the rows of 13.2's table make a body's cells, tried at each place, whatever P23.4 says of how they are found; what stands around them by P23.2 and P23.3.

// piece is an instruction, with the node that it is, if it is one by itself.
type piece struct {
	at, next, op, operand int
	node                  api.Node
}

// ended is a node that ends at an address.
type ended struct {
	node api.Node
	at   int
}

// bodies are the pieces of one word, and all lists of nodes between two places that have been told already.
type bodies struct {
	pieces []piece
	known  map[[2]int][][]api.Node
}

// model tells all programs of a cartridge.
func model(c api.Cart) []api.Program {
	cells := cellsOf(c.Code)
	if len(c.Code)%2 != 0 || len(cells) < 64 || len(cells) > 8192 {
		return nil
	}
	for k := range 64 {
		if cells[k] != k {
			return nil
		}
	}
	found := []api.Program{{Banks: c.Banks}}
	names := map[int]string{}
	for at := 64; at < len(cells); {
		defs, next, name := modelDef(cells, at, int(c.Entry), names)
		var more []api.Program
		for _, p := range found {
			for _, d := range defs {
				more = append(more, api.Program{Defs: append(slices.Clone(p.Defs), d), Banks: p.Banks})
			}
		}
		if len(more) == 0 {
			return nil
		}
		found, names[2*at], at = more, name, next
	}
	return slices.DeleteFunc(found, func(p api.Program) bool {
		_, _, _, _, e := layout.Of(p)
		return tree.Check(p) != fine || e != fine
	})
}

func cellsOf(code []byte) []int {
	var cells []int
	for i := 0; i+1 < len(code); i += 2 {
		cells = append(cells, int(code[i])+256*int(code[i+1]))
	}
	return cells
}

// modelDef tells all definitions that begin with that cell, the cell behind them, and their name.
func modelDef(cells []int, at, entry int, names map[int]string) ([]api.Def, int, string) {
	switch {
	case cells[at] == 2 && at+1 < len(cells):
		name := "k" + four(uint16(2*at))
		return []api.Def{{Kind: 2, Name: name, Value: uint16(cells[at+1])}}, at + 2, name
	case cells[at] != 1:
		return nil, 0, ""
	}
	name := "w" + four(uint16(2*at))
	if 2*at == entry {
		name = "main"
	}
	pieces, next := modelPieces(cells, at+1, names)
	if len(pieces) == 0 || pieces[len(pieces)-1].op != 8 {
		return nil, 0, ""
	}
	b := &bodies{pieces: pieces, known: map[[2]int][][]api.Node{}}
	var defs []api.Def
	for _, body := range b.lists(pieces[0].at, pieces[len(pieces)-1].at) {
		defs = append(defs, api.Def{Kind: 1, Name: name, Body: body})
	}
	return defs, next, name
}

// modelPieces tells a word's instructions, none if there is a cell that is none, and the cell behind them.
func modelPieces(cells []int, at int, names map[int]string) ([]piece, int) {
	var list []piece
	for at < len(cells) && cells[at] != 1 && cells[at] != 2 {
		x := cells[at]
		p := piece{at: 2 * at, next: 2*at + 2, op: x / 2}
		name, known := names[x]
		switch {
		case known:
			p.op, p.node = 1, api.Node{Kind: 3, Name: name}
		case x%2 != 0 || x < 6 || x > 126:
			return nil, 0
		case x == 6 || x == 8 || x == 10 || x == 14:
			if at++; at == len(cells) {
				return nil, 0
			}
			p.operand, p.next = cells[at], p.next+2
			if x == 6 {
				p.node = api.Node{Kind: 2, Value: uint16(cells[at])}
			}
		case x == 16:
			p.node = api.Node{Kind: 9}
		case x > 16:
			p.node = api.Node{Kind: 1, Op: x / 2}
		}
		list = append(list, p)
		at++
	}
	return list, at
}

// which tells the pieces of that sort.
func (b *bodies) which(is func(p piece) bool) []piece {
	return slices.DeleteFunc(slices.Clone(b.pieces), func(p piece) bool { return !is(p) })
}

// lists are all bodies whose cells are those from one place up to another.
func (b *bodies) lists(from, to int) [][]api.Node {
	if from == to {
		return [][]api.Node{nil}
	}
	if from > to || len(b.which(func(p piece) bool { return p.at == from })) == 0 {
		return nil
	}
	key := [2]int{from, to}
	if all, known := b.known[key]; known {
		return all
	}
	var all [][]api.Node
	for _, first := range b.nodes(from, to) {
		for _, rest := range b.lists(first.at, to) {
			all = append(all, append([]api.Node{first.node}, rest...))
		}
	}
	b.known[key] = all
	return all
}

// nodes are all that begin at a place and end at the latest at another.
func (b *bodies) nodes(from, to int) []ended {
	first := b.which(func(p piece) bool { return p.at == from })[0]
	var all []ended
	if first.node.Kind != 0 {
		all = append(all, ended{first.node, first.next})
	}
	switch first.op {
	case 5:
		all = append(all, b.ifs(first, to)...)
	case 6:
		for _, loop := range b.which(func(p piece) bool { return p.op == 7 && p.operand == from+2 && p.next <= to }) {
			all = append(all, one(8, loop.next, b.lists(from+2, loop.at))...)
		}
	}
	for _, last := range b.which(func(p piece) bool {
		return (p.op == 4 || p.op == 5) && p.operand == from && p.at >= from && p.next <= to
	}) {
		all = append(all, b.begins(from, last)...)
	}
	return all
}

// ifs are the two rows of if.
func (b *bodies) ifs(first piece, to int) []ended {
	if first.operand < first.next || first.operand > to {
		return nil
	}
	all := one(4, first.operand, b.lists(first.next, first.operand))
	for _, over := range b.which(func(p piece) bool { return p.op == 4 && p.next == first.operand && p.operand <= to }) {
		all = append(all, two(4, over.operand, b.lists(first.next, over.at), b.lists(over.next, over.operand))...)
	}
	return all
}

// begins are the rows of begin that end with that branch.
func (b *bodies) begins(from int, last piece) []ended {
	if last.op == 5 {
		return one(5, last.next, b.lists(from, last.at))
	}
	all := one(7, last.next, b.lists(from, last.at))
	for _, while := range b.which(func(p piece) bool { return p.op == 5 && p.operand == last.next && p.at >= from && p.at < last.at }) {
		all = append(all, two(6, last.next, b.lists(from, while.at), b.lists(while.next, last.at))...)
	}
	return all
}

// one is nodes of a kind with each list.
func one(kind, end int, lists [][]api.Node) []ended {
	var all []ended
	for _, x := range lists {
		all = append(all, ended{api.Node{Kind: kind, Then: x}, end})
	}
	return all
}

// two is nodes of a kind with each first list and each second one.
func two(kind, end int, first, second [][]api.Node) []ended {
	var all []ended
	for _, x := range first {
		for _, y := range second {
			all = append(all, ended{api.Node{Kind: kind, Then: x, Else: y, Has: kind == 4}, end})
		}
	}
	return all
}

// wantAsModel asks that there is at most one program by the second reckoning (P23.4), and for just that one; it tells whether there is one.
func wantAsModel(t *testing.T, what string, c api.Cart) bool {
	t.Helper()
	all := model(c)
	if len(all) > 1 {
		t.Fatalf("P23.4: %s: %v: %d programs: %v", what, cellsOf(c.Code), len(all), all)
	}
	if p, e := dis.Program(c); e != fine && len(all) > 0 || e == fine && len(all) == 0 {
		t.Fatalf("P23.2: %s: %v: Program = %v, %d, want %v", what, cellsOf(c.Code), p, e, all)
	}
	if len(all) == 0 {
		wantNone(t, what, c)
		return false
	}
	wantAnswer(t, what, c, all[0])
	return true
}

func TestModel(t *testing.T) { // the second reckoning is held to sources
	for _, src := range []string{
		": main ;",
		": main 1 2 if 3 else 4 then begin 5 until begin 6 again begin 7 while 8 repeat do 9 loop exit ;",
		": main if if if else then else then then begin begin begin until again while repeat ;",
	} {
		if all := model(cartOf(t, src)); len(all) != 1 || !tree.Same(all[0], parsed(t, src)) {
			t.Errorf("%s: %v", src, all)
		}
	}
	if all := model(at128(1, 10, 136, 16)); len(all) > 0 {
		t.Errorf("%v", all)
	}
	for _, r := range sources.Rows() {
		src := ": main " + strings.NewReplacer("A", "1", "B", "2").Replace(r.Src) + " ;"
		if all := model(cartOf(t, src)); len(all) != 1 || !tree.Same(all[0], parsed(t, src)) {
			t.Errorf("%s: %v", src, all)
		}
	}
}
