package prim_test

import (
	"math/rand"
	"reflect"
	"slices"
	"testing"

	"wisp/api"
	"wisp/mem"
	"wisp/prim"
	"wisp/stack"
)

// Faults and kinds by the document's numbers.
const (
	none    = api.Fault(0)
	under   = api.Fault(1)
	over    = api.Fault(2)
	rUnder  = api.Fault(3)
	rOver   = api.Fault(4)
	other   = api.Fault(5)
	nothing = api.Fault(6) // no primitive that Do does

	call  = 1
	limit = 2
	index = 3
	saved = 4
)

// world is all that Do works on; the stacks as plain lists, the lowest cell first.
type world struct {
	data  []uint16
	ret   []api.Cell
	space *mem.Memory
}

func cell(kind int, value uint16) api.Cell { return api.Cell{Kind: kind, Value: value} }

// rising is a list of so many cells, no two alike, none 0.
func rising(many int) []uint16 {
	l := make([]uint16, many)
	for i := range l {
		l[i] = uint16(1 + 251*i)
	}
	return l
}

// kinds is a list of so many cells of the return stack, of each kind in turn, no two values alike, none 0.
func kinds(many int) []api.Cell {
	l := make([]api.Cell, many)
	for i := range l {
		l[i] = cell(1+i%4, uint16(1+509*i))
	}
	return l
}

// filled is a memory in which hardly a byte is as its neighbours: two banks (3 is chosen), variables, pixels, a gamepad, two frames, a tone, a cycle.
func filled(seed int) *mem.Memory {
	bytes := make([]byte, 3*16384)
	rand.New(rand.NewSource(int64(seed))).Read(bytes)
	m, _ := mem.New(api.Bank{Num: 0, Data: bytes[:100]}, api.Bank{Num: 3, Data: bytes[16384:32768]})
	m.Begin(0)
	m.Begin(uint8(0xa5 + seed))
	for n, x := range bytes[32768:] {
		m.Store(uint16(0x8000+n), x)
		m.Store(uint16(0xc000+n%3072), x)
	}
	m.Choose(3)
	m.At(70 + seed)
	m.Play(uint16(0x0102+seed), uint8(0x33+seed))
	m.At(1234 + seed)
	return m
}

// stacks are the world's lists as stacks; kinds that the document does not know may be among them.
func (w world) stacks(t *testing.T) (*stack.Data, *stack.Return) {
	t.Helper()
	d, r := &stack.Data{}, &stack.Return{}
	if f, g := d.Push(w.data...), r.Push(w.ret...); f != none || g != none {
		t.Fatalf("%d and %d cells: faults %d, %d", len(w.data), len(w.ret), f, g)
	}
	return d, r
}

// wantSame holds two memories against each other, their cycles too, which a tone tells.
func wantSame(t *testing.T, got, want *mem.Memory, what ...any) {
	t.Helper()
	if !reflect.DeepEqual(got.Image(), want.Image()) || !slices.Equal(got.Tones(), want.Tones()) {
		t.Fatalf("%v: another memory than is meant", what)
	}
	one, two := got.Copy(), want.Copy()
	one.Play(1, 1)
	two.Play(1, 1)
	if !slices.Equal(one.Tones(), two.Tones()) {
		t.Fatalf("%v: another cycle than is meant", what)
	}
}

// looked tells the fault of what 6.5 says of the return stack.
func looked(op int, ret []api.Cell) api.Fault {
	kind, from := 0, 1
	switch op {
	case 56, 57:
		kind = saved
	case 58:
		kind = index
	case 59:
		kind, from = index, 3
	case 55:
		if len(ret) == 128 {
			return rOver
		}
	case 6:
		if len(ret) > 126 {
			return rOver
		}
	}
	switch {
	case kind == 0:
		return none
	case len(ret) < from:
		return rUnder
	case ret[len(ret)-from].Kind != kind:
		return other
	}
	return none
}

// meant says 6.5 of a plain primitive, by the effect as it stands in DOC.md's table: a name that stands on its left is what was taken, another is what the primitive makes.
func meant(op int, w world) (world, api.Fault) {
	left, right := lines[op-1].sides()
	if len(w.data) < len(left) {
		return w, under
	}
	if len(w.data)-len(left)+len(right) > 256 {
		return w, over
	}
	if f := looked(op, w.ret); f != none {
		return w, f
	}
	deep := len(w.data) - len(left)
	in := w.data[deep:]
	behind := world{data: slices.Clone(w.data[:deep]), ret: slices.Clone(w.ret), space: w.space.Copy()}
	for _, name := range right {
		at := slices.Index(left, name)
		if at >= 0 {
			behind.data = append(behind.data, in[at])
		} else {
			behind.data = append(behind.data, makes(op, in, w))
		}
	}
	change(op, in, &behind)
	return behind, none
}

// change says what is done to the return stack and to the memory.
func change(op int, in []uint16, w *world) {
	switch op {
	case 6:
		w.ret = append(w.ret, cell(limit, in[0]), cell(index, in[1]))
	case 55:
		w.ret = append(w.ret, cell(saved, in[0]))
	case 56:
		w.ret = w.ret[:len(w.ret)-1]
	case 51:
		w.space.SetCell(in[1], in[0])
	case 53:
		w.space.Store(in[1], uint8(in[0]%256))
	case 54:
		w.space.SetCell(in[1], uint16((int(w.space.Cell(in[1]))+int(in[0]))%65536))
	case 60:
		w.space.Plot(in[0], in[1], in[2])
	case 62:
		w.space.Play(in[0], uint8(in[1]%256))
	case 63:
		w.space.Choose(in[0])
	}
}

// makes says the cell that a primitive makes.
func makes(op int, in []uint16, w world) uint16 {
	switch op {
	case 50:
		return w.space.Cell(in[0])
	case 52:
		return uint16(w.space.Load(in[0]))
	case 56, 57, 58:
		return w.ret[len(w.ret)-1].Value
	case 59:
		return w.ret[len(w.ret)-3].Value
	case 61:
		return uint16(w.space.Pad())
	}
	if len(in) == 1 {
		return ofOne(op, int(in[0]))
	}
	return ofTwo(op, int(in[0]), int(in[1]))
}

// signed and folded go between cells and numbers.
func signed(x int) int {
	if x > 32767 {
		return x - 65536
	}
	return x
}

func folded(n int) uint16 { return uint16((n%65536 + 65536) % 65536) }

func flag(b bool) uint16 {
	if b {
		return 65535
	}
	return 0
}

// ofOne says DOC.md's table of what takes one cell.
func ofOne(op, x int) uint16 {
	switch op {
	case 28:
		return folded(0 - x)
	case 29:
		return folded(max(signed(x), -signed(x)))
	case 32:
		return folded(x + 1)
	case 33:
		return folded(x - 1)
	case 34:
		return folded(x + x)
	case 35:
		return folded((signed(x) - (x % 2)) / 2)
	case 39:
		return folded(65535 - x)
	case 48:
		return flag(x == 0)
	case 49:
		return flag(signed(x) < 0)
	}
	panic("no primitive of one cell")
}

// ofTwo says DOC.md's table of what takes two cells.
func ofTwo(op, x, y int) uint16 {
	n, m := signed(x), signed(y)
	switch op {
	case 21:
		return folded(x + y)
	case 22:
		return folded(x - y)
	case 23:
		return folded(x * y)
	case 24, 25, 26, 27:
		return divided(op, x, y)
	case 30:
		return folded(min(n, m))
	case 31:
		return folded(max(n, m))
	case 36:
		return uint16(x & y)
	case 37:
		return uint16(x | y)
	case 38:
		return uint16(x ^ y)
	case 40, 41:
		return shifted(op, x, y)
	case 42:
		return flag(x == y)
	case 43:
		return flag(x != y)
	case 44:
		return flag(n < m)
	case 45:
		return flag(n > m)
	case 46:
		return flag(x < y)
	case 47:
		return flag(x > y)
	}
	panic("no primitive of two cells")
}

func divided(op, x, y int) uint16 {
	if y == 0 {
		return 0
	}
	switch op {
	case 24:
		return folded(signed(x) / signed(y))
	case 25:
		return folded(signed(x) % signed(y))
	case 26:
		return folded(x / y)
	}
	return folded(x % y)
}

// shifted goes bit by bit, so that no shift of the language's is asked.
func shifted(op, x, y int) uint16 {
	for range min(y, 16) {
		if op == 40 {
			x = x * 2 % 65536
		} else {
			x = x / 2
		}
	}
	return uint16(x)
}

// grows tells how many cells the return stack has more behind a primitive (6.6).
func grows(op int) int {
	switch op {
	case 6:
		return 2
	case 55:
		return 1
	case 56:
		return -1
	}
	return 0
}

// wantDone does a plain primitive in a world, and holds all that there is behind it against what is meant; with a fault nothing may have changed.
func wantDone(t *testing.T, op int, w world) api.Fault {
	t.Helper()
	want, f := meant(op, w)
	d, r := w.stacks(t)
	m := w.space.Copy()
	got := prim.Do(op, d, r, m)
	if got != f {
		t.Fatalf("Do(%d) of %v, %v: fault %d, want %d", op, w.data, w.ret, got, f)
	}
	if !slices.Equal(d.Cells(), want.data) || !slices.Equal(r.Cells(), want.ret) {
		t.Fatalf("Do(%d) of %v, %v: %v, %v, want %v, %v", op, w.data, w.ret, d.Cells(), r.Cells(), want.data, want.ret)
	}
	wantSame(t, m, want.space, "Do(", op, ") of ", w.data)
	if row := lines[op-1].row(); got == none && (d.Len() != len(w.data)+row.Out-row.In || r.Len() != len(w.ret)+grows(op)) {
		t.Fatalf("6.6: Do(%d): %d and %d cells behind %d and %d", op, d.Len(), r.Len(), len(w.data), len(w.ret))
	}
	return got
}

// wantCells does a primitive, and holds fault and stacks against what stands here by hand.
func wantCells(t *testing.T, op int, data []uint16, ret []api.Cell, f api.Fault, wantData []uint16, wantRet []api.Cell) {
	t.Helper()
	space, _ := mem.New()
	d, r := world{data: data, ret: ret}.stacks(t)
	if got := prim.Do(op, d, r, space); got != f {
		t.Errorf("Do(%d) of %v, %v: fault %d, want %d", op, data, ret, got, f)
	}
	if !slices.Equal(d.Cells(), wantData) || !slices.Equal(r.Cells(), wantRet) {
		t.Errorf("Do(%d) of %v, %v: %v, %v, want %v, %v", op, data, ret, d.Cells(), r.Cells(), wantData, wantRet)
	}
}

// wantFault is wantCells of what changes nothing.
func wantFault(t *testing.T, op int, data []uint16, ret []api.Cell, f api.Fault) {
	t.Helper()
	wantCells(t, op, data, ret, f, data, ret)
}

// good is a return stack of so many cells (three or more) on which the primitive finds what it looks for.
func good(op, many int) []api.Cell {
	ret := kinds(many)
	switch op {
	case 56, 57:
		ret[many-1].Kind = saved
	case 58:
		ret[many-1].Kind = index
	case 59:
		ret[many-3].Kind = index
	}
	return ret
}

func TestExample2(t *testing.T) { // 6.5
	wantCells(t, 16, []uint16{1, 2, 3}, nil, none, []uint16{2, 3, 1}, nil)
	wantCells(t, 14, []uint16{1, 2, 3}, nil, none, []uint16{1, 3, 2}, nil)
	wantCells(t, 18, []uint16{1, 2, 3}, nil, none, []uint16{1, 3, 2, 3}, nil)
	wantCells(t, 19, []uint16{1, 2, 3}, nil, none, []uint16{1, 2, 3, 2, 3}, nil)
	wantCells(t, 22, []uint16{1, 2, 3}, nil, none, []uint16{1, 65535}, nil)
}

func TestExample3(t *testing.T) { // 6.5
	d, r := &stack.Data{}, &stack.Return{}
	m, _ := mem.New()
	d.Push(5, 0x8000)
	if f := prim.Do(51, d, r, m); f != none || d.Len() != 0 || m.Cell(0x8000) != 5 {
		t.Errorf("!: fault %d, data %v, the cell is %d", f, d.Cells(), m.Cell(0x8000))
	}
	d.Push(3, 0x8000)
	if f := prim.Do(54, d, r, m); f != none || d.Len() != 0 || m.Cell(0x8000) != 8 {
		t.Errorf("+!: fault %d, data %v, the cell is %d", f, d.Cells(), m.Cell(0x8000))
	}
}

func TestExample4(t *testing.T) { // 6.5
	wantFault(t, 13, nil, nil, under)
	wantFault(t, 12, rising(256), nil, over)
	wantFault(t, 56, rising(256), nil, over)
	wantFault(t, 56, rising(255), nil, rUnder)
	wantFault(t, 56, rising(255), []api.Cell{cell(call, 7)}, other)
}

func TestExample5(t *testing.T) { // 6.5
	loop := []api.Cell{cell(limit, 10), cell(index, 0)}
	wantCells(t, 6, []uint16{10, 0}, nil, none, nil, loop)
	wantCells(t, 58, nil, loop, none, []uint16{0}, loop)
	ret := []api.Cell{cell(limit, 9), cell(index, 4), cell(saved, 7), cell(saved, 8)}
	wantCells(t, 59, nil, ret, none, []uint16{4}, ret)
	wantFault(t, 6, []uint16{10, 0}, kinds(127), rOver)
}

func TestExample6(t *testing.T) { // 6.5
	for _, op := range []int{10, 8, 99} {
		wantFault(t, op, []uint16{1}, []api.Cell{cell(call, 1)}, nothing)
	}
	space, _ := mem.New()
	if f := prim.Do(12, nil, &stack.Return{}, space); f != nothing {
		t.Errorf("Do(12) without a data stack: fault %d", f)
	}
}

func TestOrderByHand(t *testing.T) { // 6.5, 6.8: those that turn cells round, with a cell that lies deeper
	for _, c := range []struct {
		op   int
		want []uint16
	}{
		{9, []uint16{9, 1, 2, 3}}, {12, []uint16{9, 1, 2, 3, 3}}, {13, []uint16{9, 1, 2}}, {14, []uint16{9, 1, 3, 2}}, {15, []uint16{9, 1, 2, 3, 2}},
		{16, []uint16{9, 2, 3, 1}}, {17, []uint16{9, 1, 3}}, {18, []uint16{9, 1, 3, 2, 3}}, {19, []uint16{9, 1, 2, 3, 2, 3}}, {20, []uint16{9, 1}},
	} {
		wantCells(t, c.op, []uint16{9, 1, 2, 3}, kinds(2), none, c.want, kinds(2))
	}
}

func TestJustEnough(t *testing.T) { // 6.5, 6.6, 6.8: just enough cells and one fewer; just enough room and one cell less
	space := filled(1)
	for _, op := range plainOps() {
		row := lines[op-1].row()
		w := world{rising(row.In), good(op, 9), space}
		if f := wantDone(t, op, w); f != none {
			t.Errorf("Do(%d) of just %d cells: fault %d", op, row.In, f)
		}
		if row.In > 0 {
			w.data = rising(row.In - 1)
			if f := wantDone(t, op, w); f != under {
				t.Errorf("Do(%d) of %d cells: fault %d", op, row.In-1, f)
			}
		}
		grow := max(row.Out-row.In, 0)
		w.data = rising(256 - grow)
		if f := wantDone(t, op, w); f != none {
			t.Errorf("Do(%d) of %d cells: fault %d", op, 256-grow, f)
		}
		for more := 1; more <= grow; more++ {
			w.data = rising(256 - grow + more)
			if f := wantDone(t, op, w); f != over {
				t.Errorf("Do(%d) of %d cells: fault %d", op, 256-grow+more, f)
			}
		}
	}
}

// returns are return stacks of each kind at each place that is looked at, and at the borders of the room.
func returns() [][]api.Cell {
	all := [][]api.Cell{nil}
	for kind := -1; kind <= 6; kind++ {
		all = append(all, []api.Cell{cell(kind, 77)}, []api.Cell{cell(kind, 77), cell(saved, 5), cell(call, 6)})
	}
	for _, many := range []int{2, 3, 4, 5, 6, 124, 125, 126, 127, 128} {
		all = append(all, kinds(many))
	}
	return all
}

func TestAtManyHeights(t *testing.T) { // 6.5, 6.6, 6.8
	space := filled(2)
	for _, op := range plainOps() {
		for _, many := range []int{0, 1, 2, 3, 4, 253, 254, 255, 256} {
			for _, ret := range returns() {
				wantDone(t, op, world{rising(many), ret, space})
			}
		}
	}
}

func TestTwoFaults(t *testing.T) { // 6.5: which one comes first
	full, high := rising(256), kinds(128)
	wantFault(t, 55, nil, high, under)              // and rOver
	wantFault(t, 6, nil, high, under)               // and rOver
	wantFault(t, 6, []uint16{1}, kinds(127), under) // and rOver
	wantFault(t, 6, []uint16{1}, kinds(126), under)
	for _, op := range []int{56, 57, 58, 59} {
		wantFault(t, op, full, nil, over)                                                        // and rUnder
		wantFault(t, op, full, []api.Cell{cell(call, 1)}, over)                                  // and other, of j rUnder
		wantFault(t, op, full, []api.Cell{cell(limit, 1), cell(limit, 2), cell(limit, 3)}, over) // and other
		wantFault(t, op, rising(255), []api.Cell{cell(limit, 1), cell(limit, 2), cell(1, 3)}, other)
	}
	wantFault(t, 59, nil, []api.Cell{cell(call, 1), cell(call, 2)}, rUnder) // its third cell is not there: kinds are not looked at
	wantFault(t, 59, nil, []api.Cell{cell(index, 1), cell(index, 2)}, rUnder)
	for _, op := range []int{1, 5, 7, 8, 10, 11, 64, 0, -1} {
		wantFault(t, op, nil, nil, nothing)
		wantFault(t, op, full, high, nothing)
	}
	wantFault(t, 54, []uint16{1}, high, under)
	wantFault(t, 12, full, high, over)
	wantFault(t, 61, full, high, over)
}

func TestKinds(t *testing.T) { // 6.5: each kind at the cell that is looked at; below and above it they do not matter
	for kind := -1; kind <= 6; kind++ {
		for below := -1; below <= 6; below++ {
			ret := []api.Cell{cell(below, 11), cell(kind, 22)}
			wantKind(t, 56, ret, saved, 22, ret[:1])
			wantKind(t, 57, ret, saved, 22, ret)
			wantKind(t, 58, ret, index, 22, ret)
			wantFault(t, 59, nil, ret, rUnder)
			for above := -1; above <= 6; above++ {
				ret := []api.Cell{cell(kind, 22), cell(below, 33), cell(above, 44)}
				wantKindAt(t, 59, ret, 0, index, 22, ret)
				ret = append([]api.Cell{cell(index, 99)}, ret...)
				wantKindAt(t, 59, ret, 1, index, 22, ret)
			}
		}
		one := []api.Cell{cell(kind, 22)}
		wantKind(t, 56, one, saved, 22, nil)
		wantKind(t, 57, one, saved, 22, one)
		wantKind(t, 58, one, index, 22, one)
		wantFault(t, 59, nil, one, rUnder)
	}
	for _, op := range []int{56, 57, 58, 59} {
		wantFault(t, op, nil, nil, rUnder)
	}
}

// wantKind is wantKindAt of the top cell.
func wantKind(t *testing.T, op int, ret []api.Cell, kind int, x uint16, behind []api.Cell) {
	t.Helper()
	wantKindAt(t, op, ret, len(ret)-1, kind, x, behind)
}

// wantKindAt wants x, and the return stack as behind, if the cell that is looked at is of that kind; else the fault.
func wantKindAt(t *testing.T, op int, ret []api.Cell, at, kind int, x uint16, behind []api.Cell) {
	t.Helper()
	if ret[at].Kind == kind {
		wantCells(t, op, []uint16{5}, ret, none, []uint16{5, x}, behind)
	} else {
		wantFault(t, op, []uint16{5}, ret, other)
	}
}

func TestOthersDoNotLookAtTheReturnStack(t *testing.T) { // 6.5: whatever lies there, it stays, and is no fault
	space := filled(3)
	for _, op := range plainOps() {
		if op == 6 || op >= 55 && op <= 59 {
			continue
		}
		for _, ret := range returns() {
			if f := wantDone(t, op, world{rising(5), ret, space}); f != none {
				t.Errorf("Do(%d) with %v: fault %d", op, ret, f)
			}
		}
	}
}

func TestRoomOfTheReturnStack(t *testing.T) { // 6.5: do and >r at 126, 127 and 128 cells, and what they put
	for _, many := range []int{0, 1, 125, 126} {
		wantCells(t, 6, []uint16{3, 10, 20}, kinds(many), none, []uint16{3}, append(kinds(many), cell(limit, 10), cell(index, 20)))
		wantCells(t, 55, []uint16{3, 10, 20}, kinds(many), none, []uint16{3, 10}, append(kinds(many), cell(saved, 20)))
	}
	wantFault(t, 6, []uint16{3, 10, 20}, kinds(127), rOver)
	wantFault(t, 6, []uint16{3, 10, 20}, kinds(128), rOver)
	wantCells(t, 55, []uint16{3, 10, 20}, kinds(127), none, []uint16{3, 10}, append(kinds(127), cell(saved, 20)))
	wantFault(t, 55, []uint16{3, 10, 20}, kinds(128), rOver)
	for _, op := range []int{56, 57, 58, 59} { // a full one is no fault of those that put nothing there
		ret := good(op, 128)
		behind, x := ret, ret[127].Value
		switch op {
		case 56:
			behind = ret[:127]
		case 59:
			x = ret[125].Value
		}
		wantCells(t, op, nil, ret, none, []uint16{x}, behind)
	}
}

func TestArithmeticByHand(t *testing.T) { // 6.5: one or more of each, reckoned by hand
	for _, c := range []struct {
		op   int
		x, y uint16
		z    uint16
	}{
		{21, 65535, 2, 1}, {22, 0, 1, 65535}, {22, 7, 5, 2}, {23, 300, 300, 24464}, {24, 65529, 2, 65533}, {24, 32768, 65535, 32768}, {24, 5, 0, 0}, {24, 7, 2, 3},
		{25, 65529, 2, 65535}, {25, 7, 65534, 1}, {25, 5, 0, 0}, {26, 65529, 2, 32764}, {26, 5, 0, 0}, {27, 65529, 2, 1}, {27, 5, 0, 0}, {27, 65535, 10, 5},
		{30, 32768, 32767, 32768}, {30, 1, 65535, 65535}, {31, 32768, 32767, 32767}, {31, 1, 65535, 1}, {36, 0xff0f, 0x0ff1, 0x0f01}, {37, 0xff00, 0x0ff1, 0xfff1}, {38, 0xff00, 0x0ff1, 0xf0f1},
		{40, 1, 15, 32768}, {40, 1, 16, 0}, {40, 3, 1, 6}, {41, 65535, 15, 1}, {41, 65535, 16, 0}, {41, 6, 1, 3}, {40, 1, 65535, 0}, {41, 65535, 256, 0},
		{42, 7, 7, 65535}, {42, 7, 8, 0}, {43, 7, 7, 0}, {43, 7, 8, 65535}, {44, 65535, 0, 65535}, {44, 0, 65535, 0}, {44, 7, 7, 0}, {45, 65535, 0, 0}, {45, 0, 65535, 65535}, {45, 7, 7, 0},
		{46, 65535, 0, 0}, {46, 0, 65535, 65535}, {46, 7, 7, 0}, {47, 65535, 0, 65535}, {47, 0, 65535, 0}, {47, 7, 7, 0},
	} {
		wantCells(t, c.op, []uint16{11, 22, c.x, c.y}, kinds(3), none, []uint16{11, 22, c.z}, kinds(3))
	}
	for _, c := range []struct {
		op   int
		x, z uint16
	}{
		{28, 1, 65535}, {28, 0, 0}, {28, 32768, 32768}, {29, 65535, 1}, {29, 5, 5}, {29, 32768, 32768}, {32, 65535, 0}, {32, 7, 8}, {33, 0, 65535}, {33, 7, 6},
		{34, 32769, 2}, {34, 7, 14}, {35, 65535, 65535}, {35, 65533, 65534}, {35, 3, 1}, {39, 0, 65535}, {39, 0x0ff0, 0xf00f}, {48, 0, 65535}, {48, 1, 0}, {49, 32768, 65535}, {49, 32767, 0}, {49, 0, 0},
	} {
		wantCells(t, c.op, []uint16{11, 22, c.x}, kinds(3), none, []uint16{11, 22, c.z}, kinds(3))
	}
}

func TestArithmetic(t *testing.T) { // 6.5: the borders on each side, at the foot of the stack and high up
	edges := []uint16{0, 1, 2, 3, 7, 15, 16, 17, 255, 256, 32766, 32767, 32768, 32769, 65533, 65534, 65535}
	for op := 21; op <= 49; op++ {
		for _, deep := range []int{0, 3, 254} {
			for _, x := range edges {
				for _, y := range edges {
					data := append(rising(deep), x, y)
					in, want := 2, append(rising(deep), 0)
					if lines[op-1].row().In == 1 {
						in, want = 1, append(rising(deep), x, 0)
						want[len(want)-1] = ofOne(op, int(y))
					} else {
						want[len(want)-1] = ofTwo(op, int(x), int(y))
					}
					if len(data)-in+1 != len(want) {
						t.Fatalf("%d: %d cells, want %d", op, len(data), len(want))
					}
					wantCells(t, op, data, nil, none, want, nil)
				}
			}
		}
	}
}

func TestAddresses(t *testing.T) { // 6.5: @ c@ ! c! +! at the borders of the address space, at the screen and at the ports, with a bank and without
	at := []uint16{0, 1, 2, 0x1000, 0x3ffe, 0x3fff, 0x4000, 0x4001, 0x5555, 0x7ffe, 0x7fff, 0x8000, 0x8001, 0x9999, 0xbffe, 0xbfff, 0xc000, 0xc001, 0xc03f, 0xc040, 0xcbfe, 0xcbff, 0xcc00, 0xe000, 0xfefe, 0xfeff,
		0xff00, 0xff01, 0xff02, 0xff03, 0xff04, 0xff05, 0xff06, 0xff07, 0xff08, 0xff09, 0xff0a, 0xfffe, 0xffff}
	for _, bank := range []uint16{0, 3, 5} {
		space := filled(4)
		space.Choose(bank)
		for _, a := range at {
			for _, op := range []int{50, 52} {
				wantDone(t, op, world{[]uint16{9, a}, kinds(2), space})
			}
			for _, x := range []uint16{0, 1, 0x00ff, 0x0100, 0x1234, 0x8001, 0xffff} {
				for _, op := range []int{51, 53, 54} {
					wantDone(t, op, world{[]uint16{9, x, a}, kinds(2), space})
				}
			}
		}
	}
}

// doer does primitives one behind the other, and tells the data stack behind each, which is emptied then.
type doer struct {
	t *testing.T
	m *mem.Memory
}

func (o doer) do(op int, data ...uint16) []uint16 {
	o.t.Helper()
	d, r := world{data: data}.stacks(o.t)
	if f := prim.Do(op, d, r, o.m); f != none || r.Len() != 0 {
		o.t.Errorf("Do(%d) of %v: fault %d, return stack %v", op, data, f, r.Cells())
	}
	return d.Cells()
}

func (o doer) want(want uint16, op int, data ...uint16) {
	o.t.Helper()
	if got := o.do(op, data...); !slices.Equal(got, []uint16{want}) {
		o.t.Errorf("Do(%d) of %v: %v, want %d", op, data, got, want)
	}
}

func TestAddressesByHand(t *testing.T) { // 6.5
	m, _ := mem.New(api.Bank{Num: 0, Data: []byte{9, 8}})
	m.Begin(0x77)
	m.At(12)
	o := doer{t, m}
	o.want(0x0809, 50, 0x4000)
	o.want(9, 52, 0x4000)
	o.do(51, 0x1234, 0x7fff) // the window's last byte, and the first variable's low byte
	o.want(0x34, 52, 0x7fff)
	o.want(0x12, 52, 0x8000)
	o.do(51, 0x5678, 0xbfff) // the last byte of the variables, and the first pixel
	o.want(0x5678, 50, 0xbfff)
	if m.Screen()[0] != 0x56 {
		t.Errorf("the first pixel is %d", m.Screen()[0])
	}
	o.do(53, 0x9abc, 0xcbff)
	if m.Screen()[3071] != 0xbc {
		t.Errorf("the last pixel is %d", m.Screen()[3071])
	}
	o.do(51, 0xffff, 0xcc00)
	o.want(0, 50, 0xcc00)
	o.do(51, 0xffff, 0)
	o.want(0, 50, 0)
	o.do(51, 0x0102, 0xffff)
	o.want(0, 50, 0xffff)
	o.do(54, 0xffff, 0x8000) // 0x0012, less one
	o.want(0x0011, 50, 0x8000)
	o.do(54, 0x00ff, 0x8000) // what passes the low byte goes on in the high one
	o.want(0x0110, 50, 0x8000)
	o.want(0x77, 52, 0xff02)
	o.want(1, 50, 0xff08)
	o.do(51, 0xffff, 0xff08)
	o.want(1, 50, 0xff08)
	o.do(51, 440, 0xff04)
	o.do(53, 0x1209, 0xff06)
	o.do(54, 0x0101, 0xff05) // the pitch's high byte 1 and the volume 9 are the cell: 0x0901, and 0x0101 more
	want := []api.Tone{{Cycle: 12, Pitch: 440, Volume: 9}, {Cycle: 12, Pitch: 0x02b8, Volume: 10}}
	if got := m.Tones(); !slices.Equal(got, want) {
		t.Errorf("tones %v, want %v", got, want)
	}
	o.do(53, 0xff35, 0xff00)
	o.want(5, 52, 0xff00)
}

func TestPlot(t *testing.T) { // 6.5: within the screen one pixel, beyond it nothing
	edges := []uint16{0, 1, 31, 46, 47, 48, 62, 63, 64, 65, 255, 256, 1024, 32767, 32768, 65472, 65535}
	before := filled(5)
	for _, x := range edges {
		for _, y := range edges {
			for _, c := range []uint16{0, 1, 255, 256, 300, 0x1234, 65535} {
				m := before.Copy()
				want := m.Screen()
				doer{t, m}.do(60, x, y, c)
				if x < 64 && y < 48 {
					want[64*int(y)+int(x)] = byte(c % 256)
				}
				if !slices.Equal(m.Screen(), want) {
					t.Fatalf("plot of %d %d %d: another screen than is meant", x, y, c)
				}
			}
		}
	}
	wantDone(t, 60, world{[]uint16{5, 63, 47, 300}, nil, before})
	wantDone(t, 60, world{[]uint16{5, 64, 47, 300}, nil, before})
}

func TestToneAndBankAndPad(t *testing.T) { // 6.5: numbers beyond their borders
	edges := []uint16{0, 1, 2, 3, 15, 16, 17, 19, 255, 256, 259, 440, 0x1234, 32768, 65520, 65535}
	start := filled(6)
	for _, n := range edges {
		m := start.Copy()
		before := m.Image()
		doer{t, m}.do(63, n)
		before.Chosen = uint8(n % 16)
		if !reflect.DeepEqual(m.Image(), before) {
			t.Errorf("bank of %d: %d is chosen", n, m.Image().Chosen)
		}
		for _, v := range edges {
			m := start.Copy()
			image, tones := m.Image(), m.Tones()
			doer{t, m}.do(62, n, v)
			image.Pitch, image.Volume = n, uint8(v%256)
			tones = append(tones, api.Tone{Cycle: 1240, Pitch: n, Volume: uint8(v % 256)})
			if !reflect.DeepEqual(m.Image(), image) || !slices.Equal(m.Tones(), tones) {
				t.Errorf("tone of %d %d: tones %v, want %v", n, v, m.Tones(), tones)
			}
		}
	}
	for pad := range 256 {
		m := start.Copy()
		m.Begin(uint8(pad))
		doer{t, m}.want(uint16(pad), 61)
		doer{t, m}.want(uint16(pad), 61)
	}
}

func TestWhoTouchesTheMemory(t *testing.T) { // 6.8: only these look at it, only these change it
	look, change := []int{50, 52, 54, 61}, []int{51, 53, 54, 60, 62, 63}
	data := []uint16{9, 5, 7, 0x8000}
	for _, op := range plainOps() {
		one, two := filled(7), filled(8)
		w := world{data, good(op, 5), one}
		d, r := w.stacks(t)
		e, s := w.stacks(t)
		if f, g := prim.Do(op, d, r, one), prim.Do(op, e, s, two); f != none || g != none {
			t.Errorf("Do(%d): faults %d, %d", op, f, g)
		}
		same := slices.Equal(d.Cells(), e.Cells()) && slices.Equal(r.Cells(), s.Cells())
		if !same && !slices.Contains(look, op) {
			t.Errorf("Do(%d) leaves other cells with another memory", op)
		}
		if !slices.Contains(change, op) {
			wantSame(t, one, filled(7), "Do(", op, ")")
			wantSame(t, two, filled(8), "Do(", op, ")")
		}
	}
}

func TestNotPlain(t *testing.T) { // 6.5: nothing is done, whatever there is
	space := filled(9)
	for _, op := range append([]int{1, 2, 3, 4, 5, 7, 8, 10, 11}, strangers()...) {
		for _, w := range []world{{nil, nil, space}, {rising(5), kinds(5), space}, {rising(256), kinds(128), space}, {[]uint16{0}, []api.Cell{cell(limit, 2), cell(index, 1)}, space}, {nil, []api.Cell{cell(call, 2)}, space}} {
			d, r := w.stacks(t)
			m := space.Copy()
			if f := prim.Do(op, d, r, m); f != nothing || !slices.Equal(d.Cells(), w.data) || !slices.Equal(r.Cells(), w.ret) {
				t.Fatalf("Do(%d) of %v, %v: fault %d, %v, %v", op, w.data, w.ret, f, d.Cells(), r.Cells())
			}
			wantSame(t, m, space, "Do(", op, ")")
		}
	}
}

func TestNil(t *testing.T) { // 6.5: each of d, r and m nil alone, and together; the others stay as they are
	space := filled(10)
	for op := -1; op <= 65; op++ {
		for _, many := range []int{0, 5, 256} {
			for missing := 1; missing <= 7; missing++ {
				w := world{rising(many), kinds(min(many, 128)), space}
				d, r := w.stacks(t)
				m := space.Copy()
				var noData, noReturn, noMemory = d, r, m
				if missing&1 != 0 {
					noData = nil
				}
				if missing&2 != 0 {
					noReturn = nil
				}
				if missing&4 != 0 {
					noMemory = nil
				}
				if f := prim.Do(op, noData, noReturn, noMemory); f != nothing {
					t.Fatalf("Do(%d), nil by %03b, %d cells: fault %d", op, missing, many, f)
				}
				if !slices.Equal(d.Cells(), w.data) || !slices.Equal(r.Cells(), w.ret) {
					t.Fatalf("Do(%d), nil by %03b: %v, %v", op, missing, d.Cells(), r.Cells())
				}
				wantSame(t, m, space, "Do(", op, "), nil by ", missing)
			}
		}
	}
}

func TestZeroStacks(t *testing.T) { // R1: stacks that nobody made are empty ones
	space, _ := mem.New()
	var d stack.Data
	var r stack.Return
	if f := prim.Do(61, &d, &r, space); f != none || d.Len() != 1 {
		t.Errorf("pad: fault %d, %v", f, d.Cells())
	}
	if f := prim.Do(55, &d, &r, space); f != none || d.Len() != 0 || r.Len() != 1 {
		t.Errorf(">r: fault %d, %v, %v", f, d.Cells(), r.Cells())
	}
	if f := prim.Do(55, &d, &r, space); f != under {
		t.Errorf(">r: fault %d", f)
	}
}

func TestLives(t *testing.T) { // 6.5, 6.6, 6.8: thousands of primitives one behind the other, on the same stacks
	const steps = 4000
	plain := plainOps()
	for seed := range 6 {
		dice := rand.New(rand.NewSource(int64(seed)))
		w := world{space: filled(seed)}
		d, r := w.stacks(t)
		m := w.space.Copy()
		for step := range steps {
			op := plain[dice.Intn(len(plain))]
			if dice.Intn(2) == 0 && len(w.data) < 256 { // numbers from elsewhere, as lit has them
				x := []uint16{uint16(dice.Intn(65536)), uint16(dice.Intn(70)), uint16(0x8000 + dice.Intn(6)), 0xff00 + uint16(dice.Intn(12))}[dice.Intn(4)]
				d.Push(x)
				w.data = append(w.data, x)
			}
			want, f := meant(op, w)
			if got := prim.Do(op, d, r, m); got != f {
				t.Fatalf("life %d, step %d: Do(%d) of %v, %v: fault %d, want %d", seed, step, op, w.data, w.ret, got, f)
			}
			if !slices.Equal(d.Cells(), want.data) || !slices.Equal(r.Cells(), want.ret) {
				t.Fatalf("life %d, step %d: Do(%d) of %v, %v: %v, %v, want %v, %v", seed, step, op, w.data, w.ret, d.Cells(), r.Cells(), want.data, want.ret)
			}
			w = want
			if step%100 == 0 {
				wantSame(t, m, w.space, "life ", seed, ", step ", step)
			}
		}
		wantSame(t, m, w.space, "life ", seed)
	}
}
