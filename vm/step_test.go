package vm_test

import (
	"fmt"
	"math/rand"
	"slices"
	"testing"

	"wisp/api"
	"wisp/vm"
)

// steps does so many, none of which may yield.
func steps(t *testing.T, m *vm.Machine, many int) {
	t.Helper()
	for range many {
		if m.Step() {
			t.Error("a step has yielded")
		}
	}
}

// ends steps a machine to its end, and tells how many steps it did, the one that faults too.
func ends(t *testing.T, m *vm.Machine) int {
	t.Helper()
	many := 0
	for m.State().Status == running {
		m.Step()
		many++
		if many > 100000 {
			t.Fatal("a machine that does not end")
		}
	}
	return many
}

func TestExample1(t *testing.T) { // 8.1 to 8.4
	c := carted(6, 7, 6, 0, 48, 16)
	m := made(t, c)
	stands(t, m, 130, running, none, nil)
	looks(t, "example 1", m, 3, 7, none)
	steps(t, m, 1)
	stands(t, m, 134, running, none, []uint16{7})
	looks(t, "example 1", m, 3, 0, none)
	steps(t, m, 1)
	stands(t, m, 138, running, none, []uint16{7, 0})
	looks(t, "example 1", m, 24, 0, none)
	steps(t, m, 1)
	stands(t, m, 140, running, none, []uint16{0})
	looks(t, "example 1", m, 8, 0, none)
	steps(t, m, 1)
	stands(t, m, 142, halted, none, []uint16{0})
	looks(t, "example 1", m, 0, 0, none)
	m = made(t, c)
	framed(t, m, 100, halted, none, 4, 10)
	stands(t, m, 142, halted, none, []uint16{0})
}

func TestExample2(t *testing.T) { // 8.4
	m := made(t, carted(6, 7, 6, 0, 48, 16))
	framed(t, m, 4, running, none, 2, 4)
	stands(t, m, 138, running, none, []uint16{7, 0})
	framed(t, m, 4, running, none, 1, 4)
	stands(t, m, 140, running, none, []uint16{0})
	framed(t, m, 4, halted, none, 1, 2)
	framed(t, m, 4, halted, none, 0, 0)
}

func TestExample3(t *testing.T) { // 8.3, 8.4
	m := made(t, carted(26))
	steps(t, m, 1)
	stands(t, m, 130, faulted, under, nil)
	steps(t, m, 5)
	stands(t, m, 130, faulted, under, nil)
	m = made(t, carted(26))
	for _, budget := range []int{4, 100, 16384, 5} {
		framed(t, m, budget, faulted, under, 0, 0)
		stands(t, m, 130, faulted, under, nil)
	}
}

func TestExample4(t *testing.T) { // 8.3, 8.4
	m := made(t, carted(8, 130))
	steps(t, m, 1000)
	stands(t, m, 130, running, none, nil)
	for budget := 4; budget <= 16384; budget += 1 + budget/7 {
		framed(t, m, budget, running, none, budget/2, budget/2*2)
	}
	framed(t, m, 16384, running, none, 8192, 16384)
}

func TestExample5(t *testing.T) { // 8.3, 8.4
	full := slices.Repeat([]uint16{1}, 256)
	m := made(t, carted(6, 1, 24, 8, 134))
	framed(t, m, 4000, faulted, over, 511, 2+255*3)
	stands(t, m, 134, faulted, over, full)
	m = made(t, carted(6, 1, 24, 8, 134))
	if many := ends(t, m); many != 512 {
		t.Errorf("%d steps, want 512", many)
	}
	stands(t, m, 134, faulted, over, full)

	calls := slices.Repeat([]api.Cell{cell(call, 132)}, 128)
	m = made(t, carted(128))
	framed(t, m, 4000, faulted, rOver, 128, 256)
	stands(t, m, 130, faulted, rOver, nil, calls...)
	m = made(t, carted(128))
	steps(t, m, 128)
	stands(t, m, 130, running, none, nil, calls...)
	steps(t, m, 1)
	stands(t, m, 130, faulted, rOver, nil, calls...)
}

func TestExample6(t *testing.T) { // 8.3, 8.4
	m := made(t, carted(112))
	steps(t, m, 1)
	stands(t, m, 130, faulted, rUnder, nil)
	framed(t, made(t, carted(112)), 50, faulted, rUnder, 0, 0)

	m = made(t, carted(6, 1, 110, 16))
	steps(t, m, 3)
	stands(t, m, 136, faulted, other, nil, cell(saved, 1))
	framed(t, made(t, carted(6, 1, 110, 16)), 50, faulted, other, 2, 3)

	c := carted(6, 3, 6, 0, 12, 116, 14, 140, 16)
	m = made(t, c)
	steps(t, m, 3)
	stands(t, m, 140, running, none, nil, cell(limit, 3), cell(index, 0))
	steps(t, m, 2)
	stands(t, m, 140, running, none, []uint16{0}, cell(limit, 3), cell(index, 1))
	steps(t, m, 2)
	stands(t, m, 140, running, none, []uint16{0, 1}, cell(limit, 3), cell(index, 2))
	steps(t, m, 2)
	stands(t, m, 146, running, none, []uint16{0, 1, 2})
	steps(t, m, 1)
	stands(t, m, 148, halted, none, []uint16{0, 1, 2})
	m = made(t, c)
	framed(t, m, 1000, halted, none, 10, 4+3+3*(1+3)+2)
	stands(t, m, 148, halted, none, []uint16{0, 1, 2})
}

func TestExample7(t *testing.T) { // 8.2 to 8.4
	for what, x := range map[string]struct {
		cells []uint16
		fault api.Fault
	}{
		"an odd thread":           {[]uint16{129}, fetch},
		"a thread to 20000":       {[]uint16{20000}, fetch},
		"a cell that holds 64":    {[]uint16{132, 64}, noOp},
		"a cell that holds 0":     {[]uint16{132, 0}, noOp},
		"the table's cell 0":      {[]uint16{0}, noOp},
		"a code that ends at lit": {[]uint16{6}, fetch},
		"a code that ends":        {nil, fetch},
	} {
		m := made(t, carted(x.cells...))
		looks(t, what, m, 0, 0, x.fault)
		steps(t, m, 1)
		stands(t, m, 130, faulted, x.fault, nil)
		steps(t, m, 1)
		stands(t, m, 130, faulted, x.fault, nil)
		m = made(t, carted(x.cells...))
		framed(t, m, 1000, faulted, x.fault, 0, 0)
		framed(t, m, 1000, faulted, x.fault, 0, 0)
		stands(t, m, 130, faulted, x.fault, nil)
	}
}

func TestEnter(t *testing.T) { // 8.3: the address behind the cell; on at the cell behind the code field
	// main: lit 5, the word at 142, exit; the word: 1+ exit
	c := carted(6, 5, 142, 26, 16, 18, 1, 64, 16)
	m := made(t, c)
	steps(t, m, 1)
	looks(t, "enter", m, 1, 144, none)
	steps(t, m, 1)
	stands(t, m, 144, running, none, []uint16{5}, cell(call, 136))
	steps(t, m, 1)
	stands(t, m, 146, running, none, []uint16{6}, cell(call, 136))
	steps(t, m, 1)
	stands(t, m, 136, running, none, []uint16{6})
	steps(t, m, 1)
	stands(t, m, 138, running, none, nil)
	steps(t, m, 1)
	stands(t, m, 140, halted, none, nil)
	framed(t, made(t, c), 100, halted, none, 6, 2+2+1+2+1+2)
}

func TestConst(t *testing.T) { // 8.3: the cell behind the code field; on behind the instruction's own cell
	c := carted(136, 136, 42, 2, 1234)
	m := made(t, c)
	looks(t, "const", m, 2, 1234, none)
	steps(t, m, 1)
	stands(t, m, 132, running, none, []uint16{1234})
	steps(t, m, 2)
	stands(t, m, 136, running, none, []uint16{2468})
	c = carted(8, 130)
	c.Code = append(c.Code[:130], coded(4, 4)...) // the table's own cell 2: the cell behind it holds 3
	m = made(t, c)
	steps(t, m, 2)
	stands(t, m, 134, running, none, []uint16{3, 3})
}

func TestBranches(t *testing.T) { // 8.3: both ways, to anywhere
	for _, to := range []uint16{0, 1, 130, 131, 132, 134, 20000, 65535} {
		m := made(t, carted(8, to))
		looks(t, "branch", m, 4, to, none)
		steps(t, m, 1)
		stands(t, m, to, running, none, nil)
		for _, x := range []uint16{0, 1, 255, 256, 32768, 65535} {
			m = made(t, carted(6, 77, 6, x, 10, to))
			steps(t, m, 3)
			if x == 0 {
				stands(t, m, to, running, none, []uint16{77})
			} else {
				stands(t, m, 142, running, none, []uint16{77})
			}
		}
	}
	m := made(t, carted(10, 130))
	steps(t, m, 1)
	stands(t, m, 130, faulted, under, nil)
}

func TestLoop(t *testing.T) { // 8.3: one more, and round; the limit that comes behind 65535 is 0
	for _, x := range []struct {
		limit, index uint16
		ends         bool
	}{
		{3, 2, true}, {3, 1, false}, {3, 3, false}, {3, 4, false}, {0, 65535, true}, {1, 65535, false}, {0, 0, false},
		{1, 0, true}, {65535, 65534, true}, {65535, 65535, false}, {32768, 32767, true}, {256, 255, true}, {256, 511, false},
	} {
		w := newWorld(carted(14, 200))
		w.ret = []api.Cell{cell(call, 9), cell(limit, x.limit), cell(index, x.index)}
		m := w.machine(t)
		steps(t, m, 1)
		if x.ends {
			stands(t, m, 134, running, none, nil, cell(call, 9))
		} else {
			stands(t, m, 200, running, none, nil, cell(call, 9), cell(limit, x.limit), cell(index, x.index+1))
		}
	}
}

func TestLoopLooksCellByCell(t *testing.T) { // DOC.md, 'Faults': from the top: first whether it is there, then its kind
	for _, x := range []struct {
		ret   []api.Cell
		fault api.Fault
	}{
		{nil, rUnder},
		{[]api.Cell{cell(index, 1)}, rUnder},
		{[]api.Cell{cell(limit, 1)}, other},
		{[]api.Cell{cell(saved, 1)}, other},
		{[]api.Cell{cell(call, 1)}, other},
		{[]api.Cell{cell(index, 9), cell(limit, 1)}, other},
		{[]api.Cell{cell(index, 9), cell(index, 1)}, other},
		{[]api.Cell{cell(saved, 9), cell(index, 1)}, other},
		{[]api.Cell{cell(call, 9), cell(index, 1)}, other},
		{[]api.Cell{cell(limit, 9), cell(limit, 1)}, other},
		{[]api.Cell{cell(limit, 9), cell(saved, 1)}, other},
		{[]api.Cell{cell(limit, 9), cell(index, 1), cell(saved, 1)}, other},
	} {
		w := newWorld(carted(14, 130))
		w.ret = x.ret
		m := w.machine(t)
		steps(t, m, 1)
		stands(t, m, 130, faulted, x.fault, nil, x.ret...)
	}
}

func TestExit(t *testing.T) { // 8.3: nothing there: halted, behind the instruction; else a Call
	m := made(t, carted(16))
	steps(t, m, 1)
	stands(t, m, 132, halted, none, nil)
	for kind := call; kind <= saved; kind++ {
		w := newWorld(carted(16))
		w.ret = []api.Cell{cell(call, 3), cell(kind, 777)}
		m = w.machine(t)
		steps(t, m, 1)
		if kind == call {
			stands(t, m, 777, running, none, nil, cell(call, 3))
		} else {
			stands(t, m, 130, faulted, other, nil, w.ret...)
		}
	}
}

func TestHaltAndYield(t *testing.T) { // 8.3: both with whatever there is on the stacks; yielded of yield alone
	w := newWorld(carted(20, 22, 18))
	w.data, w.ret = []uint16{1, 2}, []api.Cell{cell(limit, 3)}
	m := w.machine(t)
	if !m.Step() {
		t.Error("yield has not yielded")
	}
	stands(t, m, 132, running, none, w.data, w.ret...)
	steps(t, m, 1)
	stands(t, m, 134, halted, none, w.data, w.ret...)
	steps(t, m, 3)
	stands(t, m, 134, halted, none, w.data, w.ret...)
}

func TestStepOfWhatDoesNotRun(t *testing.T) { // 8.3: nothing is done, a yield neither
	x := made(t, carted(20)).Memory().Image()
	for _, s := range []vm.State{{At: 130, Status: halted}, {At: 130, Status: faulted, Fault: other}} {
		m := restored(t, carted(20), s, x)
		steps(t, m, 2)
		sameState(t, m.State(), s, "a step of what does not run")
	}
}

func TestStepTellsTheMemoryNoCycles(t *testing.T) { // 8.3, 8.4: a frame does; a tone by Step has the cycle that the memory was told
	m := made(t, carted(6, 440, 6, 9, 124))
	m.Memory().At(77)
	steps(t, m, 3)
	if tones := m.Memory().Tones(); !slices.Equal(tones, []api.Tone{{Cycle: 77, Pitch: 440, Volume: 9}}) {
		t.Errorf("a tone by Step: %v", tones)
	}
}

func TestAtGoesOnBehindTheLast(t *testing.T) { // 8.3: the code's end is met by the next step
	full := make([]byte, 16384)
	copy(full[16378:], coded(9, 16378, 16378))
	m := standingAt(t, full, 16382)
	steps(t, m, 1)
	stands(t, m, 16384, running, none, nil)
	steps(t, m, 1)
	stands(t, m, 16384, faulted, fetch, nil)
}

// heights are those of a data stack at which something happens.
var heights = []int{0, 1, 2, 3, 4, 252, 253, 254, 255, 256}

// returns are return stacks of up to three cells, of all kinds, and such that are full or nearly so.
func returns(random *rand.Rand) [][]api.Cell {
	all := [][]api.Cell{nil}
	from := 0
	for range 3 {
		for _, low := range all[from:] {
			from++
			for kind := call; kind <= saved; kind++ {
				all = append(all, append(slices.Clone(low), cell(kind, uint16(random.Intn(4)))))
			}
		}
	}
	for many := 124; many <= 128; many++ {
		for kind := call; kind <= saved; kind++ {
			ret := make([]api.Cell, many)
			for i := range ret {
				ret[i] = cell(1+random.Intn(4), uint16(random.Intn(65536)))
			}
			ret[many-1].Kind, ret[many-2].Kind, ret[many-3].Kind = kind, limit, index
			all = append(all, ret)
		}
	}
	return all
}

// cells is a data stack of so many: small numbers, addresses and others.
func cells(random *rand.Rand, many int) []uint16 {
	data := make([]uint16, many)
	for i := range data {
		switch random.Intn(4) {
		case 0:
			data[i] = uint16(random.Intn(3))
		case 1:
			data[i] = uint16(0x8000 + random.Intn(0x4000))
		default:
			data[i] = uint16(random.Intn(65536))
		}
	}
	return data
}

// wantStep does one step of a machine in that world, and holds all that there is behind it against the model.
func wantStep(t *testing.T, w *world) {
	t.Helper()
	before := w.state()
	m := w.machine(t)
	w.lookSame(t, m, "ahead of a step")
	yielded, want := m.Step(), w.step()
	if yielded != want {
		t.Fatalf("a step of %v has yielded: %v, want %v", before, yielded, want)
	}
	w.same(t, m, "a step of", before)
	if w.status == faulted {
		before.Status, before.Fault = faulted, w.fault
		sameState(t, m.State(), before, "a step that faults")
	}
}

func TestStepOfEveryPrimitive(t *testing.T) { // 8.3: stacks that are empty, full, just enough; all kinds; a fault changes nothing else
	random := rand.New(rand.NewSource(83))
	all := returns(random)
	space := filled(random)
	seen := map[string]int{}
	for op := 1; op < 64; op++ {
		for _, high := range heights {
			for n, ret := range all {
				if n%7 != 0 && !hasToDoWithReturn(op) {
					continue
				}
				w := newWorld(carted(uint16(2*op), 132))
				w.data, w.ret, w.space = cells(random, high), slices.Clone(ret), space.Copy()
				wantStep(t, w)
				seen[fmt.Sprint(op, w.fault)]++
			}
		}
	}
	// Which faults each primitive can meet, one by one: the test has met all of them, and no others.
	for op := 1; op < 64; op++ {
		for fault := none; fault <= fetch; fault++ {
			if want := slices.Contains(faultsOf(op), fault); want != (seen[fmt.Sprint(op, fault)] > 0) {
				t.Errorf("primitive %d, fault %d: met %d times", op, fault, seen[fmt.Sprint(op, fault)])
			}
		}
	}
}

func hasToDoWithReturn(op int) bool {
	return op == 1 || op == 6 || op == 7 || op == 8 || op >= 55 && op <= 59
}

// faultsOf tells, by DOC.md's table and its list, what a step of a primitive may come to.
func faultsOf(op int) []api.Fault {
	switch op {
	case 1:
		return []api.Fault{none, rOver}
	case 2, 3, 61:
		return []api.Fault{none, over}
	case 4, 9, 10, 11:
		return []api.Fault{none}
	case 6, 55:
		return []api.Fault{none, under, rOver}
	case 7:
		return []api.Fault{none, rUnder, other}
	case 8:
		return []api.Fault{none, other}
	case 12, 15, 18, 19:
		return []api.Fault{none, under, over}
	case 56, 57, 58, 59:
		return []api.Fault{none, over, rUnder, other}
	}
	return []api.Fault{none, under}
}

func TestStepOfMemoryAndDevices(t *testing.T) { // 8.3: what reads and writes, at addresses of every part
	random := rand.New(rand.NewSource(84))
	space := filled(random, 0, 3)
	for _, op := range []int{50, 51, 52, 53, 54, 60, 61, 62, 63} {
		for range 150 {
			w := newWorld(carted(uint16(2*op), 132))
			w.data, w.space = cells(random, 5), space.Copy()
			w.data[4] = []uint16{0, 0x3fff, 0x4000, 0x7fff, 0x8000, 0xbfff, 0xc000, 0xcbff, 0xcc00, 0xff00, 0xff02, 0xff04, 0xff05, 0xff06, 0xff08, 0xffff}[random.Intn(16)]
			if op == 60 {
				w.data[2], w.data[3] = uint16(random.Intn(66)), uint16(random.Intn(50))
			}
			if op == 63 {
				w.data[4] = uint16(random.Intn(40))
			}
			wantStep(t, w)
		}
	}
}
