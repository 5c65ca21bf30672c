package stack_test

import (
	"fmt"
	"math"
	"math/big"
	"math/rand"
	"reflect"
	"slices"
	"testing"

	"wisp/api"
	"wisp/stack"
)

// Limits, faults, kinds and errors by the document's numbers, not by api's names: a slip in one of the two must show.
const (
	maxData   = 256
	maxReturn = 128

	none   = api.Fault(0)
	under  = api.Fault(1)
	over   = api.Fault(2)
	rUnder = api.Fault(3)
	rOver  = api.Fault(4)
	other  = api.Fault(5)

	call  = 1
	limit = 2
	index = 3
	saved = 4

	fine     = api.Errno(0)
	badInput = api.Errno(2)
)

// model says what the two stacks hold, as plain lists with the lowest cell first.
type model struct {
	data []uint16
	ret  []api.Cell
}

func cell(kind int, value uint16) api.Cell { return api.Cell{Kind: kind, Value: value} }

// rising is a list of so many cells, no two alike, none 0.
func rising(many int) []uint16 {
	l := make([]uint16, many)
	for i := range l {
		l[i] = uint16(1 + 251*i)
	}
	return l
}

// kinds is a list of so many cells of the return stack, of each kind in turn, no two values alike, none 0.
func kinds(many int) []api.Cell {
	l := make([]api.Cell, many)
	for i := range l {
		l[i] = cell(1+i%4, uint16(1+509*i))
	}
	return l
}

// roomy is the same list with spare room behind it that is filled with x.
func roomy[T any](list []T, x T) []T {
	room := make([]T, len(list), len(list)+300)
	copy(room, list)
	spare := room[len(list):cap(room)]
	for i := range spare {
		spare[i] = x
	}
	return room
}

// writeOver sets all that a list has, spare room too.
func writeOver[T any](list []T, x T) {
	all := list[:cap(list)]
	for i := range all {
		all[i] = x
	}
}

// dataOf and returnOf are stacks of these cells that were pushed one by one.
func dataOf(t *testing.T, cells []uint16) *stack.Data {
	t.Helper()
	d := &stack.Data{}
	for i, x := range cells {
		if f := d.Push(x); f != none {
			t.Fatalf("Push of cell %d: fault %d", i+1, f)
		}
	}
	return d
}

func returnOf(t *testing.T, cells []api.Cell) *stack.Return {
	t.Helper()
	r := &stack.Return{}
	for i, x := range cells {
		if f := r.Push(x); f != none {
			t.Fatalf("Push of cell %d: fault %d", i+1, f)
		}
	}
	return r
}

func wantFault(t *testing.T, got, want api.Fault, what ...any) {
	t.Helper()
	if got != want {
		t.Fatalf("%s: fault %d, want %d", fmt.Sprint(what...), got, want)
	}
}

func wantData(t *testing.T, d *stack.Data, want []uint16, what ...any) {
	t.Helper()
	if got := d.Cells(); !slices.Equal(got, want) {
		t.Fatalf("%s: Cells() = %v, want %v", fmt.Sprint(what...), got, want)
	}
	if got := d.Len(); got != len(want) {
		t.Fatalf("%s: Len() = %d, want %d", fmt.Sprint(what...), got, len(want))
	}
}

func wantReturn(t *testing.T, r *stack.Return, want []api.Cell, what ...any) {
	t.Helper()
	if got := r.Cells(); !slices.Equal(got, want) {
		t.Fatalf("%s: Cells() = %v, want %v", fmt.Sprint(what...), got, want)
	}
	if got := r.Len(); got != len(want) {
		t.Fatalf("%s: Len() = %d, want %d", fmt.Sprint(what...), got, len(want))
	}
}

// wantAt and wantPop hold a value and its fault against what is asked for.
func wantAt(t *testing.T, r *stack.Return, n, kind int, x uint16, f api.Fault) {
	t.Helper()
	if gx, gf := r.At(n, kind); gx != x || gf != f {
		t.Fatalf("At(%d, %d) of %d cells = %d, fault %d, want %d, fault %d", n, kind, r.Len(), gx, gf, x, f)
	}
}

func wantPop(t *testing.T, r *stack.Return, kind int, x uint16, f api.Fault) {
	t.Helper()
	many := r.Len()
	if gx, gf := r.Pop(kind); gx != x || gf != f {
		t.Fatalf("Pop(%d) of %d cells = %d, fault %d, want %d, fault %d", kind, many, gx, gf, x, f)
	}
}

func TestExample1(t *testing.T) { // 5.1, 5.2
	d := &stack.Data{}
	wantFault(t, d.Need(0, 0), none, "Need(0, 0)")
	wantFault(t, d.Need(1, 0), under, "Need(1, 0)")
	wantFault(t, d.Need(0, 256), none, "Need(0, 256)")
	wantFault(t, d.Need(0, 257), over, "Need(0, 257)")
	wantFault(t, d.Need(-5, -5), none, "Need(-5, -5)")
	if x := d.Pop(); x != 0 {
		t.Errorf("Pop() of nothing = %d", x)
	}
	wantFault(t, d.Push(1, 2, 3), none, "Push(1, 2, 3)")
	wantData(t, d, []uint16{1, 2, 3}, "Push(1, 2, 3)")
	if x := d.Pop(); x != 3 {
		t.Errorf("Pop() = %d, want 3", x)
	}
}

func TestExample2(t *testing.T) { // 5.1, 5.2
	d := dataOf(t, rising(255))
	wantFault(t, d.Push(7, 8), over, "Push(7, 8)")
	if n := d.Len(); n != 255 {
		t.Fatalf("Len() = %d, want 255", n)
	}
	wantFault(t, d.Push(7), none, "Push(7)")
	wantFault(t, d.Need(1, 1), none, "Need(1, 1)")
	wantFault(t, d.Need(0, 1), over, "Need(0, 1)")
	wantFault(t, d.Need(257, 0), under, "Need(257, 0)")
}

func TestExample3(t *testing.T) { // 5.3
	r := &stack.Return{}
	wantFault(t, r.Push(cell(limit, 9), cell(index, 4)), none, "Push")
	wantAt(t, r, 0, index, 4, none)
	wantAt(t, r, 0, limit, 0, other)
	wantAt(t, r, 1, limit, 9, none)
	for kind := range 6 {
		wantAt(t, r, 2, kind, 0, rUnder)
		wantAt(t, r, -1, kind, 0, rUnder)
	}
	r.Set(5)
	wantPop(t, r, saved, 0, other)
	wantPop(t, r, index, 5, none)
	wantReturn(t, r, []api.Cell{cell(limit, 9)}, "behind it")
}

func TestExample4(t *testing.T) { // 5.4
	wantNoStacks(t, rising(257), nil)
	wantNoStacks(t, nil, []api.Cell{cell(0, 7)})
	wantNoStacks(t, nil, []api.Cell{cell(5, 7)})
}

// needed says P5.1 in numbers of any size.
func needed(many, in, out int) api.Fault {
	have, take, put := big.NewInt(int64(many)), big.NewInt(int64(in)), big.NewInt(int64(out))
	if take.Sign() < 0 {
		take.SetInt64(0)
	}
	if put.Sign() < 0 {
		put.SetInt64(0)
	}
	if have.Cmp(take) < 0 {
		return under
	}
	behind := have.Sub(have, take)
	if behind.Add(behind, put).Cmp(big.NewInt(maxData)) > 0 {
		return over
	}
	return none
}

func TestNeedByHand(t *testing.T) { // 5.1: the borders at 0, 1, 255 and 256 cells, one beyond them on each side
	const most, least = math.MaxInt, math.MinInt
	for _, c := range []struct {
		many, in, out int
		want          api.Fault
	}{
		{0, 0, 0, none}, {0, -1, -1, none}, {0, -1, 0, none}, {0, 0, -1, none}, {0, 1, 0, under}, {0, 1, 1, under}, {0, 1, 257, under},
		{0, 0, 1, none}, {0, 0, 255, none}, {0, 0, 256, none}, {0, 0, 257, over}, {0, -1, 256, none}, {0, -1, 257, over},
		{1, 0, 0, none}, {1, 1, 0, none}, {1, 2, 0, under}, {1, 2, 300, under}, {1, 0, 254, none}, {1, 0, 255, none}, {1, 0, 256, over},
		{1, 1, 255, none}, {1, 1, 256, none}, {1, 1, 257, over}, {1, -1, 255, none}, {1, -1, 256, over}, {1, 2, -1, under},
		{255, 0, 0, none}, {255, 0, 1, none}, {255, 0, 2, over}, {255, 1, 2, none}, {255, 1, 3, over}, {255, 254, 255, none},
		{255, 254, 256, over}, {255, 255, 256, none}, {255, 255, 257, over}, {255, 256, 0, under}, {255, 256, 256, under}, {255, -1, 1, none}, {255, -1, 2, over},
		{256, 0, 0, none}, {256, 0, -1, none}, {256, 0, 1, over}, {256, 1, 0, none}, {256, 1, 1, none}, {256, 1, 2, over}, {256, -1, 1, over},
		{256, 255, 255, none}, {256, 255, 256, over}, {256, 256, 256, none}, {256, 256, 257, over}, {256, 257, 0, under}, {256, 257, 257, under},
		{0, most, 0, under}, {0, 0, most, over}, {0, most, most, under}, {0, least, least, none}, {0, least, 256, none}, {0, least, 257, over}, {0, 1, least, under},
		{1, most, most, under}, {1, 1, most, over}, {1, least, most, over}, {1, most, least, under}, {1, least, 255, none},
		{255, most, most, under}, {255, 255, most, over}, {255, least, 1, none}, {255, least, 2, over}, {255, 255, most - 255, over},
		{256, most, 0, under}, {256, 256, most, over}, {256, 0, most, over}, {256, least, 0, none}, {256, least, least, none}, {256, 256, most - 255, over}, {256, 0, most - 256, over},
	} {
		cells := rising(c.many)
		d := dataOf(t, cells)
		wantFault(t, d.Need(c.in, c.out), c.want, c.many, " cells: Need(", c.in, ", ", c.out, ")")
		wantData(t, d, cells, c.many, " cells behind Need(", c.in, ", ", c.out, ")")
	}
}

// around are the numbers at which Need of so many cells may change, with those beside them.
func around(many int) []int {
	l := []int{math.MinInt, math.MinInt + 1, -1 << 32, -257, -256, math.MaxInt, math.MaxInt - 1, math.MaxInt - 255, math.MaxInt - 256, 1 << 32, 1<<32 + 1, 65536}
	for _, x := range []int{0, many, maxData - many, maxData, 2 * maxData} {
		l = append(l, x-2, x-1, x, x+1, x+2)
	}
	return l
}

func TestNeedAtEachHeight(t *testing.T) { // 5.1
	d := &stack.Data{}
	for many := 0; many <= maxData; many++ {
		for _, in := range around(many) {
			for _, out := range append(around(many), maxData-many+in, maxData-many+in+1, maxData-many+in-1) {
				if got, want := d.Need(in, out), needed(many, in, out); got != want {
					t.Fatalf("%d cells: Need(%d, %d) = %d, want %d", many, in, out, got, want)
				}
			}
		}
		wantData(t, d, rising(many), "behind Need")
		d.Push(uint16(1 + 251*many))
	}
}

func TestNeedTellsWhatTheCallsDo(t *testing.T) { // 5.7: in Pops and a Push of out cells are done
	for _, many := range []int{0, 1, 2, 127, 128, 129, 254, 255, 256} {
		for _, in := range []int{-1, 0, 1, many - 1, many, many + 1, 300} {
			for out := 0; out <= 258; out++ {
				d := dataOf(t, rising(many))
				told := d.Need(in, out)
				want := none
				for range max(in, 0) {
					if d.Len() == 0 {
						want = under
						break
					}
					d.Pop()
				}
				if want == none {
					want = d.Push(make([]uint16, out)...)
				}
				wantFault(t, told, want, many, " cells: Need(", in, ", ", out, ")")
			}
		}
	}
}

func TestDataPush(t *testing.T) { // 5.2, 5.6: at each height no cell, one, half, just as many as there is room for, one more, many more
	for many := 0; many <= maxData; many++ {
		room := maxData - many
		for _, more := range []int{0, 1, 2, room / 2, room - 1, room, room + 1, room + 2, 256, 257, 70000} {
			if more < 0 {
				continue
			}
			d := dataOf(t, rising(many))
			put := make([]uint16, more)
			for i := range put {
				put[i] = uint16(60000 - i)
			}
			got := d.Push(put...)
			if more <= room {
				wantFault(t, got, none, "Push of ", more, " cells on ", many)
				wantData(t, d, append(rising(many), put...), "Push of ", more, " cells on ", many)
			} else {
				wantFault(t, got, over, "Push of ", more, " cells on ", many)
				wantData(t, d, rising(many), "Push of ", more, " cells on ", many)
			}
		}
	}
}

func TestDataPushNeverTakesTooMany(t *testing.T) { // 5.2, 5.6: one by one, and the full stack goes on as it was
	d := &stack.Data{}
	for i := range 300 {
		want := none
		if i >= maxData {
			want = over
		}
		wantFault(t, d.Push(uint16(i)), want, "Push number ", i+1)
	}
	wantFault(t, d.Push(), none, "Push() on a full stack")
	for i := maxData - 1; i >= 0; i-- {
		if x := d.Pop(); x != uint16(i) {
			t.Fatalf("Pop() = %d, want %d", x, i)
		}
	}
	wantData(t, d, nil, "at the end")
}

func TestDataPop(t *testing.T) { // 5.2, 5.6: what was put comes back in the other order, and 0 from then on
	for _, many := range []int{0, 1, 2, 3, 255, 256} {
		all := rising(many)
		d := &stack.Data{}
		wantFault(t, d.Push(all...), none, "Push of ", many, " cells")
		for i := many - 1; i >= 0; i-- {
			if x := d.Pop(); x != all[i] {
				t.Fatalf("%d cells: Pop() = %d, want %d", many, x, all[i])
			}
			wantData(t, d, all[:i], "behind Pop")
		}
		for range 3 {
			if x := d.Pop(); x != 0 {
				t.Fatalf("Pop() of nothing = %d", x)
			}
			wantData(t, d, nil, "behind Pop of nothing")
		}
		wantFault(t, d.Push(5, 6), none, "Push behind Pop of nothing")
		wantData(t, d, []uint16{5, 6}, "Push behind Pop of nothing")
	}
}

func TestDataCellsOfAllValues(t *testing.T) { // 5.2: each cell as it was put
	d := &stack.Data{}
	for x := range 65536 {
		wantFault(t, d.Push(uint16(x)), none, "Push(", x, ")")
		if got := d.Cells(); len(got) != 1 || got[0] != uint16(x) {
			t.Fatalf("Push(%d): Cells() = %v", x, got)
		}
		if got := d.Pop(); got != uint16(x) {
			t.Fatalf("Push(%d): Pop() = %d", x, got)
		}
	}
}

func TestReturnPush(t *testing.T) { // 5.3, 5.6: at each height, as of the data stack
	for many := 0; many <= maxReturn; many++ {
		room := maxReturn - many
		for _, more := range []int{0, 1, 2, room / 2, room - 1, room, room + 1, room + 2, 128, 129, 256, 257, 70000} {
			if more < 0 {
				continue
			}
			r := returnOf(t, kinds(many))
			put := make([]api.Cell, more)
			for i := range put {
				put[i] = cell(4-i%4, uint16(60000-i))
			}
			got := r.Push(put...)
			if more <= room {
				wantFault(t, got, none, "Push of ", more, " cells on ", many)
				wantReturn(t, r, append(kinds(many), put...), "Push of ", more, " cells on ", many)
			} else {
				wantFault(t, got, rOver, "Push of ", more, " cells on ", many)
				wantReturn(t, r, kinds(many), "Push of ", more, " cells on ", many)
			}
		}
	}
}

func TestReturnPushNeverTakesTooMany(t *testing.T) { // 5.3, 5.6
	r := &stack.Return{}
	for i := range 300 {
		want := none
		if i >= maxReturn {
			want = rOver
		}
		wantFault(t, r.Push(cell(1+i%4, uint16(i))), want, "Push number ", i+1)
	}
	wantFault(t, r.Push(), none, "Push() on a full stack")
	for i := maxReturn - 1; i >= 0; i-- {
		wantPop(t, r, 1+i%4, uint16(i), none)
	}
	wantReturn(t, r, nil, "at the end")
}

// strange are numbers of kinds: those that there are, and those that are none.
var strange = []int{0, 1, 2, 3, 4, 5, 6, -1, -2, 255, 256, 257, 65537, 1 << 32, 1<<32 + 1, math.MaxInt, math.MinInt}

func TestReturnOfEachKind(t *testing.T) { // 5.3, 5.5: any number is a kind here, and is asked for as it was put
	for _, put := range strange {
		for _, asked := range strange {
			r := returnOf(t, []api.Cell{cell(put, 700)})
			if put != asked {
				wantAt(t, r, 0, asked, 0, other)
				wantPop(t, r, asked, 0, other)
				wantReturn(t, r, []api.Cell{cell(put, 700)}, "behind a fault")
				continue
			}
			wantAt(t, r, 0, asked, 700, none)
			wantReturn(t, r, []api.Cell{cell(put, 700)}, "behind At")
			wantPop(t, r, asked, 700, none)
			wantReturn(t, r, nil, "behind Pop")
		}
	}
}

func TestReturnAt(t *testing.T) { // 5.3, 5.5: each cell from the top down, with its kind and with others; beyond them on each side
	for _, many := range []int{0, 1, 2, 3, 127, 128} {
		all := kinds(many)
		r := returnOf(t, all)
		for n := range many {
			c := all[many-1-n]
			for kind := 0; kind <= 5; kind++ {
				if kind == c.Kind {
					wantAt(t, r, n, kind, c.Value, none)
				} else {
					wantAt(t, r, n, kind, 0, other)
				}
			}
		}
		for _, n := range []int{math.MinInt, math.MinInt + 1, -1 << 32, -256, -128, -many - 1, -2, -1, many, many + 1, 128, 256, 257, 1 << 32, math.MaxInt - 1, math.MaxInt} {
			for kind := 0; kind <= 5; kind++ {
				wantAt(t, r, n, kind, 0, rUnder)
			}
		}
		wantReturn(t, r, all, "behind At")
	}
}

func TestReturnAtOfWhatWasTaken(t *testing.T) { // 5.3: a cell that is gone is not seen, of no kind
	r := returnOf(t, []api.Cell{cell(call, 3), cell(saved, 4)})
	wantPop(t, r, saved, 4, none)
	wantAt(t, r, 0, call, 3, none)
	for _, kind := range strange {
		wantAt(t, r, 1, kind, 0, rUnder)
		wantAt(t, r, -1, kind, 0, rUnder)
	}
}

func TestReturnPop(t *testing.T) { // 5.3, 5.5, 5.6: the other order; another kind takes nothing; of nothing a fault
	for _, many := range []int{0, 1, 2, 3, 127, 128} {
		all := kinds(many)
		r := &stack.Return{}
		wantFault(t, r.Push(all...), none, "Push of ", many, " cells")
		for i := many - 1; i >= 0; i-- {
			for kind := 0; kind <= 5; kind++ {
				if kind != all[i].Kind {
					wantPop(t, r, kind, 0, other)
				}
			}
			wantReturn(t, r, all[:i+1], "behind Pop of another kind")
			wantPop(t, r, all[i].Kind, all[i].Value, none)
			wantReturn(t, r, all[:i], "behind Pop")
		}
		for _, kind := range strange {
			wantPop(t, r, kind, 0, rUnder)
		}
		wantReturn(t, r, nil, "behind Pop of nothing")
		wantFault(t, r.Push(cell(saved, 8)), none, "Push behind Pop of nothing")
		wantReturn(t, r, []api.Cell{cell(saved, 8)}, "Push behind Pop of nothing")
	}
}

func TestReturnSet(t *testing.T) { // 5.3: the top cell's value alone
	for _, many := range []int{1, 2, 3, 127, 128} {
		for _, x := range []uint16{0, 1, 2, 255, 256, 32768, 65535} {
			all := kinds(many)
			r := returnOf(t, all)
			r.Set(x)
			all[many-1].Value = x
			wantReturn(t, r, all, "Set(", x, ") of ", many, " cells")
			wantAt(t, r, 0, all[many-1].Kind, x, none)
			wantPop(t, r, all[many-1].Kind, x, none)
			wantReturn(t, r, all[:many-1], "behind Pop")
		}
	}
	for _, kind := range strange {
		r := returnOf(t, []api.Cell{cell(kind, 1)})
		r.Set(2)
		r.Set(3)
		wantReturn(t, r, []api.Cell{cell(kind, 3)}, "Set of kind ", kind)
	}
}

func TestReturnSetOfNothing(t *testing.T) { // 5.3: also where there were cells before
	r := &stack.Return{}
	r.Set(9)
	wantReturn(t, r, nil, "Set of nothing")
	r.Push(cell(index, 4))
	wantReturn(t, r, []api.Cell{cell(index, 4)}, "Push behind Set of nothing")
	r.Pop(index)
	r.Set(9)
	wantReturn(t, r, nil, "Set behind Pop")
	wantPop(t, r, index, 0, rUnder)
}

func TestCellsAreNew(t *testing.T) { // 5.2, 5.3, R3: written over, spare room too, between two askings
	for _, many := range []int{0, 1, 2, 3, 5, 100, 127, 128, 255, 256} {
		d := dataOf(t, rising(many))
		first := d.Cells()
		second := d.Cells()
		writeOver(first, 7)
		if !slices.Equal(second, rising(many)) {
			t.Fatalf("%d cells: two answers share memory", many)
		}
		wantData(t, d, rising(many), "Cells written over")
		if many < maxData {
			d.Push(9)
			wantData(t, d, append(rising(many), 9), "Push behind Cells written over")
		}
		if many > maxReturn {
			continue
		}
		r := returnOf(t, kinds(many))
		one := r.Cells()
		two := r.Cells()
		writeOver(one, cell(9, 7))
		if !slices.Equal(two, kinds(many)) {
			t.Fatalf("%d cells of the return stack: two answers share memory", many)
		}
		wantReturn(t, r, kinds(many), "Cells written over")
		if many < maxReturn {
			r.Push(cell(saved, 9))
			wantReturn(t, r, append(kinds(many), cell(saved, 9)), "Push behind Cells written over")
		}
	}
}

func TestCellsStay(t *testing.T) { // 5.2, 5.3, R3: an answer does not follow what is done later
	d := dataOf(t, rising(10))
	was := d.Cells()
	d.Pop()
	d.Pop()
	d.Push(40000, 40001, 40002)
	if !slices.Equal(was, rising(10)) {
		t.Errorf("an answer has become %v", was)
	}
	wantData(t, d, append(rising(8), 40000, 40001, 40002), "behind Pop and Push")
	r := returnOf(t, kinds(10))
	had := r.Cells()
	r.Set(5)
	r.Pop(kinds(10)[9].Kind)
	r.Push(cell(call, 40000), cell(call, 40001))
	if !slices.Equal(had, kinds(10)) {
		t.Errorf("an answer has become %v", had)
	}
	wantReturn(t, r, append(kinds(9), cell(call, 40000), cell(call, 40001)), "behind Set, Pop and Push")
}

func TestPushKeepsNoList(t *testing.T) { // 5.2, 5.3, R3: what was handed in stays, spare room too; written over afterwards it is not seen
	for _, many := range []int{0, 1, 2, 100, 127, 128, 129, 256, 257} {
		in := roomy(rising(many), 77)
		was := slices.Clone(in[:cap(in)])
		d := &stack.Data{}
		f := d.Push(in...)
		d.Push(5)
		d.Pop()
		d.Pop()
		if !slices.Equal(in[:cap(in)], was) {
			t.Fatalf("Push of %d cells has changed its list", many)
		}
		writeOver(in, 3)
		if f == none && many > 0 {
			wantData(t, d, rising(many)[:d.Len()], "a list of ", many, " cells written over")
		}
		put := roomy(kinds(many), cell(8, 77))
		had := slices.Clone(put[:cap(put)])
		r := &stack.Return{}
		f = r.Push(put...)
		r.Push(cell(saved, 5))
		r.Set(6)
		r.Pop(saved)
		if !slices.Equal(put[:cap(put)], had) {
			t.Fatalf("Push of %d cells on the return stack has changed its list", many)
		}
		writeOver(put, cell(saved, 3))
		if f == none && many > 0 && !slices.Equal(r.Cells()[:many-1], kinds(many-1)) {
			t.Fatalf("a list of %d cells written over: Cells() = %v", many, r.Cells())
		}
	}
}

// wantStacks makes two stacks and holds them against their cells; wantNoStacks holds that there are none.
func wantStacks(t *testing.T, data []uint16, ret []api.Cell) (*stack.Data, *stack.Return) {
	t.Helper()
	d, r, e := stack.Stacks(data, ret)
	if e != fine || d == nil || r == nil {
		t.Fatalf("Stacks of %d and %d cells: error %d", len(data), len(ret), e)
	}
	wantData(t, d, data, "Stacks")
	wantReturn(t, r, ret, "Stacks")
	return d, r
}

func wantNoStacks(t *testing.T, data []uint16, ret []api.Cell) {
	t.Helper()
	d, r, e := stack.Stacks(data, ret)
	if d != nil || r != nil || e != badInput {
		t.Fatalf("Stacks of %d and %d cells: %v, %v, error %d, want nil, nil, error 2", len(data), len(ret), d, r, e)
	}
}

func TestStacks(t *testing.T) { // 5.4, R4: none, some, just as much as may be
	for _, many := range []int{0, 1, 2, 127, 128, 129, 255, 256} {
		for _, kept := range []int{0, 1, 2, 3, 4, 5, 127, 128} {
			d, r := wantStacks(t, rising(many), kinds(kept))
			wantFault(t, d.Need(many, 256), none, "Need of all")
			wantFault(t, d.Need(many+1, 0), under, "Need of one more")
			wantFault(t, d.Need(0, 257-many), over, "Need of one too many")
			for i := kept - 1; i >= 0; i-- {
				wantPop(t, r, kinds(kept)[i].Kind, kinds(kept)[i].Value, none)
			}
			for i := many - 1; i >= 0; i-- {
				if x := d.Pop(); x != rising(many)[i] {
					t.Fatalf("Pop() = %d, want %d", x, rising(many)[i])
				}
			}
		}
	}
	wantStacks(t, nil, nil)
	wantStacks(t, []uint16{}, []api.Cell{})
}

func TestStacksOfEachKind(t *testing.T) { // 5.4: at each place of the list
	for _, kind := range strange {
		for at := range 128 {
			ret := kinds(128)
			ret[at].Kind = kind
			if kind >= 1 && kind <= 4 {
				wantStacks(t, []uint16{5}, ret)
			} else {
				wantNoStacks(t, []uint16{5}, ret)
			}
		}
	}
}

func TestStacksOfWhatMayNotBe(t *testing.T) { // 5.4, R2: each reason alone, and together
	wantNoStacks(t, rising(257), nil)
	wantNoStacks(t, rising(257), kinds(128))
	wantNoStacks(t, rising(70000), kinds(1))
	wantNoStacks(t, nil, kinds(129))
	wantNoStacks(t, rising(256), kinds(129))
	wantNoStacks(t, rising(256), kinds(256))
	wantNoStacks(t, rising(256), kinds(257))
	wantNoStacks(t, rising(1), []api.Cell{cell(call, 1), cell(0, 1)})
	wantNoStacks(t, rising(1), []api.Cell{cell(5, 1), cell(call, 1)})
	wantNoStacks(t, rising(257), append(kinds(129), cell(-1, 0)))
	full, ret := wantStacks(t, rising(256), kinds(128))
	wantFault(t, full.Push(1), over, "Push on a full stack of Stacks")
	wantFault(t, ret.Push(cell(call, 1)), rOver, "Push on a full return stack of Stacks")
}

func TestStacksKeepsNoList(t *testing.T) { // 5.4, R3: what was handed in stays, spare room too; written over afterwards it is not seen
	for _, many := range []int{0, 1, 3, 127} {
		data, ret := roomy(rising(many), 77), roomy(kinds(many), cell(saved, 77))
		wasData, wasRet := slices.Clone(data[:cap(data)]), slices.Clone(ret[:cap(ret)])
		d, r := wantStacks(t, data, ret)
		d.Push(5, 6)
		r.Push(cell(call, 5))
		r.Set(6)
		d.Pop()
		r.Pop(call)
		d.Pop()
		r.Set(8)
		if !slices.Equal(data[:cap(data)], wasData) || !slices.Equal(ret[:cap(ret)], wasRet) {
			t.Fatalf("Stacks of %d cells: a list has changed", many)
		}
		writeOver(data, 3)
		writeOver(ret, cell(index, 3))
		want := kinds(many)
		if many > 0 {
			want[many-1].Value = 8
		}
		wantData(t, d, rising(many), "a list written over")
		wantReturn(t, r, want, "a list written over")
	}
}

func TestStacksOfCells(t *testing.T) { // 5.8: the same, and then neither sees the other
	for _, many := range []int{0, 1, 2, 100, 127} {
		d, r := dataOf(t, rising(many)), returnOf(t, kinds(many))
		d.Push(9)
		d.Pop()
		r.Push(cell(saved, 9))
		r.Pop(saved)
		twin, again := wantStacks(t, d.Cells(), r.Cells())
		twin.Push(50000, 50001)
		again.Push(cell(call, 50000))
		again.Set(50001)
		wantData(t, d, rising(many), "the other one has got cells")
		wantReturn(t, r, kinds(many), "the other one has got cells")
		d.Push(60000)
		r.Push(cell(index, 60000))
		r.Set(60001)
		wantData(t, twin, append(rising(many), 50000, 50001), "this one has got cells")
		wantReturn(t, again, append(kinds(many), cell(call, 50001)), "this one has got cells")
		for twin.Len() > 0 {
			twin.Pop()
		}
		again.Pop(call)
		again.Set(1)
		wantData(t, d, append(rising(many), 60000), "the other one has been emptied")
		wantReturn(t, r, append(kinds(many), cell(index, 60001)), "the other one has lost cells")
	}
}

func TestZeroStacks(t *testing.T) { // R1: each call on a stack that nothing has been done to
	empty := func() (*stack.Data, *stack.Return) { return new(stack.Data), new(stack.Return) }
	asEmpty(t, empty)
	d, r := empty()
	wantFault(t, d.Push(1), none, "Push(1)")
	wantData(t, d, []uint16{1}, "Push(1)")
	wantFault(t, r.Push(cell(call, 1)), none, "Push(Call 1)")
	wantReturn(t, r, []api.Cell{cell(call, 1)}, "Push(Call 1)")
	d, r = empty()
	wantFault(t, d.Push(make([]uint16, 256)...), none, "Push of 256 cells")
	wantFault(t, r.Push(make([]api.Cell, 128)...), none, "Push of 128 cells")
}

func TestNilStacks(t *testing.T) { // 5.5, R1: what is put is not kept; all else as of an empty one
	empty := func() (*stack.Data, *stack.Return) { return nil, nil }
	asEmpty(t, empty)
	d, r := empty()
	for _, many := range []int{1, 2, 128, 256, 257} {
		wantFault(t, d.Push(make([]uint16, many)...), over, "Push of ", many, " cells on nil")
		wantFault(t, r.Push(make([]api.Cell, many)...), rOver, "Push of ", many, " cells on nil")
	}
	asEmpty(t, empty)
}

// asEmpty asks all that can be asked of empty stacks, each by a call on new ones.
func asEmpty(t *testing.T, empty func() (*stack.Data, *stack.Return)) {
	t.Helper()
	d, r := empty()
	for _, in := range around(0) {
		for _, out := range around(0) {
			wantFault(t, d.Need(in, out), needed(0, in, out), "Need(", in, ", ", out, ")")
		}
	}
	if x := d.Pop(); x != 0 {
		t.Errorf("Pop() of nothing = %d", x)
	}
	for _, kind := range strange {
		wantPop(t, r, kind, 0, rUnder)
		for _, n := range []int{math.MinInt, -1, 0, 1, 127, 128, math.MaxInt} {
			wantAt(t, r, n, kind, 0, rUnder)
		}
	}
	r.Set(5)
	wantFault(t, d.Push(), none, "Push()")
	wantFault(t, d.Push([]uint16{}...), none, "Push of an empty list")
	wantFault(t, r.Push(), none, "Push()")
	wantFault(t, r.Push([]api.Cell{}...), none, "Push of an empty list")
	wantData(t, d, nil, "an empty stack")
	wantReturn(t, r, nil, "an empty return stack")
	d, r = empty()
	wantData(t, d, nil, "a new empty stack")
	wantReturn(t, r, nil, "a new empty return stack")
}

func TestStacksAreTheirOwn(t *testing.T) { // R5: two of them, and one that was copied as a value
	a, b := dataOf(t, rising(3)), dataOf(t, rising(2))
	a.Push(9)
	wantData(t, b, rising(2), "another one has got a cell")
	copied := *a
	copied.Pop()
	copied.Push(8)
	wantData(t, a, append(rising(3), 9), "its copy has changed")
	wantData(t, &copied, append(rising(3), 8), "the copy")
	r := returnOf(t, kinds(3))
	twin := *r
	twin.Set(8)
	wantReturn(t, r, kinds(3), "its copy has changed")
}

func TestWhatWasTakenIsNotKept(t *testing.T) { // LANGUAGE.md, 8: no more than the promises need
	d, r := dataOf(t, rising(256)), returnOf(t, kinds(128))
	for d.Len() > 0 {
		d.Pop()
	}
	for r.Len() > 0 {
		r.Pop(r.Cells()[r.Len()-1].Kind)
	}
	if !reflect.DeepEqual(d, &stack.Data{}) || !reflect.DeepEqual(r, &stack.Return{}) {
		t.Error("a stack that has been emptied is not as a new one")
	}
}

// actData does any one call to the data stack and to the model.
func actData(t *testing.T, random *rand.Rand, d *stack.Data, o *model) {
	t.Helper()
	switch random.Intn(4) {
	case 0, 1:
		put := rising(random.Intn(1 + random.Intn(100)))
		for i := range put {
			put[i] = uint16(random.Intn(65536))
		}
		want := none
		if len(o.data)+len(put) > maxData {
			want = over
		} else {
			o.data = append(o.data, put...)
		}
		wantFault(t, d.Push(put...), want, "Push of ", len(put), " cells")
	case 2:
		for range random.Intn(40) {
			var want uint16
			if n := len(o.data); n > 0 {
				want, o.data = o.data[n-1], o.data[:n-1]
			}
			if got := d.Pop(); got != want {
				t.Fatalf("Pop() = %d, want %d", got, want)
			}
		}
	case 3:
		in, out := random.Intn(300)-20, random.Intn(300)-20
		wantFault(t, d.Need(in, out), needed(len(o.data), in, out), "Need(", in, ", ", out, ")")
	}
}

// actReturn does any one call to the return stack and to the model.
func actReturn(t *testing.T, random *rand.Rand, r *stack.Return, o *model) {
	t.Helper()
	n, kind, x := random.Intn(140)-5, 1+random.Intn(4), uint16(random.Intn(65536))
	have := len(o.ret)
	switch random.Intn(5) {
	case 0, 1:
		put := kinds(random.Intn(1 + random.Intn(60)))
		want := none
		if have+len(put) > maxReturn {
			want = rOver
		} else {
			o.ret = append(o.ret, put...)
		}
		wantFault(t, r.Push(put...), want, "Push of ", len(put), " cells")
	case 2:
		for range random.Intn(40) {
			have = len(o.ret)
			kind = 1 + random.Intn(4)
			if have == 0 {
				wantPop(t, r, kind, 0, rUnder)
			} else if top := o.ret[have-1]; top.Kind != kind {
				wantPop(t, r, kind, 0, other)
				wantPop(t, r, top.Kind, top.Value, none)
				o.ret = o.ret[:have-1]
			}
		}
	case 3:
		if n < 0 || n >= have {
			wantAt(t, r, n, kind, 0, rUnder)
		} else if c := o.ret[have-1-n]; c.Kind != kind {
			wantAt(t, r, n, kind, 0, other)
		} else {
			wantAt(t, r, n, kind, c.Value, none)
		}
	case 4:
		r.Set(x)
		if have > 0 {
			o.ret[have-1].Value = x
		}
	}
}

func TestLives(t *testing.T) { // 5.1 to 5.8: any calls in any order, against plain lists; Stacks of Cells on the way
	random := rand.New(rand.NewSource(5))
	for life := range 200 {
		o, d, r := &model{}, &stack.Data{}, &stack.Return{}
		for range 200 {
			actData(t, random, d, o)
			actReturn(t, random, r, o)
			wantData(t, d, o.data, "life ", life)
			wantReturn(t, r, o.ret, "life ", life)
			if d.Len() > maxData || r.Len() > maxReturn {
				t.Fatalf("life %d: %d and %d cells", life, d.Len(), r.Len())
			}
			if random.Intn(20) == 0 {
				d, r = wantStacks(t, d.Cells(), r.Cells())
			}
		}
	}
}
