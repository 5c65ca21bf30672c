package vm_test

import (
	"math/rand"
	"reflect"
	"slices"
	"testing"

	"wisp/api"
	"wisp/carts"
	"wisp/mem"
	"wisp/prim"
	"wisp/vm"
)

func TestNew(t *testing.T) { // 8.1: Running, at Entry + 2, empty stacks, the banks
	c := carted(6, 7)
	c.Banks = []api.Bank{{Num: 0, Data: []byte{9, 8}}, {Num: 5}, {Num: 15, Data: make([]byte, 16384)}}
	m := made(t, c)
	stands(t, m, 130, running, none, nil)
	want, _ := mem.New(c.Banks...)
	sameMemory(t, m.Memory(), want, "New")
	if a := m.Memory(); a.Load(0x4000) != 9 || a.Load(0x4001) != 8 || a.Load(0x4002) != 0 {
		t.Error("New: bank 0 is not the cartridge's")
	}
}

func TestNewAtAnyEntry(t *testing.T) { // 8.1: addresses go on behind 65535 at 0
	for _, entry := range []uint16{0, 1, 2, 128, 16382, 16384, 32768, 65532, 65533, 65534, 65535} {
		c := carted(6, 7)
		c.Entry = entry
		stands(t, made(t, c), uint16((int(entry)+2)%65536), running, none, nil)
	}
}

func TestNewOfCartsThatMayBe(t *testing.T) { // 8.1: each limit just met; R4
	for what, c := range carts.JustTaken() {
		m, e := vm.New(c)
		if m == nil || e != fine {
			t.Errorf("New with %s = %v, %d", what, m != nil, e)
			continue
		}
		newWorld(c).same(t, m, what)
	}
}

func TestNewOfCartsThatMayNotBe(t *testing.T) { // 8.1, R2
	for what, c := range carts.Refused() {
		if m, e := vm.New(c); m != nil || e != badCart {
			t.Errorf("New with %s = %v, %d", what, m != nil, e)
		}
	}
}

// standingAt is a machine over this code, at that address.
func standingAt(t *testing.T, code []byte, at uint16) *vm.Machine {
	t.Helper()
	return made(t, api.Cart{Code: code, Entry: at - 2})
}

func looks(t *testing.T, what string, m *vm.Machine, op int, x uint16, f api.Fault) {
	t.Helper()
	want := api.Prim{}
	if op > 0 {
		want, _ = prim.Of(op)
	}
	if p, y, g := m.Look(); p != want || y != x || g != f {
		t.Errorf("%s: Look = %v, %d, %d, want %v, %d, %d", what, p, y, g, want, x, f)
	}
}

func TestLookAtEveryPrimitive(t *testing.T) { // 8.2: its row; the operand, a constant's cell, a word's first instruction, 0
	for op := 1; op < 64; op++ {
		m := made(t, carted(uint16(2*op), 1234))
		want := map[int]uint16{1: 4, 2: 3, 3: 1234, 4: 1234, 5: 1234, 7: 1234}[op]
		looks(t, "each", m, op, want, none)
		if p, _, _ := m.Look(); p.Op != op || p.Cost != costs[op] {
			t.Errorf("Look at %d = %v", op, p)
		}
		stands(t, m, 130, running, none, nil)
	}
}

func TestLookWithoutAnOperand(t *testing.T) { // 8.2: it is asked for where there must be one, and nowhere else
	for op := 1; op < 64; op++ {
		m := made(t, carted(uint16(2*op))) // the code ends behind the instruction's own cell
		switch op {
		case 3, 4, 5, 7:
			looks(t, "no operand", m, 0, 0, fetch)
		case 1:
			looks(t, "no operand", m, op, 4, none)
		case 2:
			looks(t, "no operand", m, op, 3, none)
		default:
			looks(t, "no operand", m, op, 0, none)
		}
	}
}

func TestLookAtTheCodesEnd(t *testing.T) { // 8.2
	code := coded(4, 6, 1, 2) // the last two cells: words that end with the code
	looks(t, "a word whose code field is the last but one", standingAt(t, code, 0), 1, 6, none)
	looks(t, "a constant without a cell", standingAt(t, code, 2), 0, 0, fetch)
	code = coded(2, 1)
	looks(t, "a word whose code field is the last cell", standingAt(t, code, 0), 1, 4, none)
	code = coded(2, 2, 77)
	looks(t, "a constant with its cell", standingAt(t, code, 0), 2, 77, none)
	code = coded(9, 0)
	looks(t, "an odd thread", standingAt(t, code, 0), 0, 0, fetch)
	looks(t, "the last cell, a thread to the first", standingAt(t, code, 2), 9, 0, none)
	looks(t, "behind the last cell", standingAt(t, code, 4), 0, 0, fetch)
	full := make([]byte, 16384)
	copy(full[16376:], coded(9, 16376, 3, 16380))
	looks(t, "the last cell of all", standingAt(t, full, 16378), 9, 0, none)
	looks(t, "lit at the end of all", standingAt(t, full, 16382), 0, 0, fetch)
	copy(full[16380:], coded(16382, 3))
	looks(t, "a lit with its operand in the last cell", standingAt(t, full, 16380), 3, 3, none)
	looks(t, "behind all", standingAt(t, full, 16384), 0, 0, fetch)
}

// numbers are those of a cell near which something happens, and some of all others.
func numbers() []int {
	var l []int
	for x := range 65536 {
		if x < 300 || x > 65400 || x%256 == 0 || x%509 == 0 || x > 16370 && x < 16400 {
			l = append(l, x)
		}
	}
	return l
}

func TestLookAtAddresses(t *testing.T) { // 8.2: odd ones, those behind the code's end, those at 65535 and beyond
	code := carted(18, 18).Code // nop, at 130 and 132
	for _, at := range numbers() {
		m := standingAt(t, code[:134], uint16(at))
		switch {
		case at >= 134 || at%2 != 0:
			looks(t, "an address", m, 0, 0, fetch)
		case at == 130 || at == 132:
			looks(t, "an address", m, 9, 0, none)
		}
		if m.State().At != uint16(at) {
			t.Fatalf("At %d is %d", at, m.State().At)
		}
	}
	looks(t, "no code", made(t, api.Cart{}), 0, 0, fetch)
}

func TestLookAtThreads(t *testing.T) { // 8.2: within the code, behind its end, odd ones
	for _, thread := range numbers() {
		m := made(t, carted(uint16(thread), 128, 0, 64, 65535, 63))
		switch {
		case thread%2 != 0 || thread >= 142:
			looks(t, "a thread", m, 0, 0, fetch)
		case thread == 0, thread == 132, thread == 134, thread == 136, thread == 138:
			looks(t, "a thread", m, 0, 0, noOp)
		case thread == 128:
			looks(t, "a thread", m, 1, 130, none)
		case thread == 140:
			looks(t, "a thread", m, 63, 0, none)
		}
	}
}

func TestLookAtCells(t *testing.T) { // 8.2: 1 to 63, and nothing else
	for _, x := range numbers() {
		m := made(t, carted(132, uint16(x), 5))
		_, _, f := m.Look()
		if (f == none) != (x >= 1 && x <= 63) || f != none && f != noOp {
			t.Fatalf("Look at a cell that holds %d: fault %d", x, f)
		}
	}
}

func TestLookTellsTheFirstFault(t *testing.T) { // 8.2: the thread's cell comes ahead of the opcode, the opcode ahead of the operand
	looks(t, "no opcode, at the code's end", made(t, carted(0)), 0, 0, noOp)
	looks(t, "64, at the code's end", made(t, carted(130)), 0, 0, noOp)
	looks(t, "a thread outside", made(t, carted(129)), 0, 0, fetch)
}

func TestLookAgainstTheModel(t *testing.T) { // 8.2: short code of small numbers, at each address
	random := rand.New(rand.NewSource(8))
	for range 3000 {
		cells := make([]uint16, random.Intn(12))
		for i := range cells {
			cells[i] = uint16(random.Intn(26))
		}
		w := newWorld(api.Cart{Code: coded(cells...)})
		for at := range 2*len(cells) + 3 {
			w.at = at
			w.lookSame(t, standingAt(t, w.code, uint16(at)), cells)
		}
	}
}

func TestLookOfWhatDoesNotRun(t *testing.T) { // 8.2: nothing, wherever it stands
	x := made(t, carted(18)).Memory().Image()
	for _, at := range []uint16{130, 131, 0, 65535} {
		for _, s := range []vm.State{{At: at, Status: halted}, {At: at, Status: faulted, Fault: under}, {At: at, Status: faulted, Fault: fetch}} {
			m := restored(t, carted(18), s, x)
			looks(t, "not running", m, 0, 0, none)
			sameState(t, m.State(), s, "Look of what does not run")
		}
	}
}

func TestCodeIsReadAsItIs(t *testing.T) { // 8.2: that programs read 0 there is another matter
	m := made(t, carted(6, 130, 100, 6, 9, 6, 130, 102, 16)) // 130 @; 9 130 !
	framed(t, m, 100, halted, none, 6, 2+2+2+2+2+2)
	stands(t, m, 148, halted, none, []uint16{0})
	sameOut(t, mustFrame(t, made(t, carted(6, 9, 6, 138, 102, 18, 16)), 100), api.Out{Status: halted, Steps: 5, Spent: 9, Idle: 91, Screen: make([]byte, 3072)}, "a write to the code")
}

func mustFrame(t *testing.T, m *vm.Machine, budget int) api.Out {
	t.Helper()
	o, e := m.Frame(0, budget)
	if e != fine {
		t.Fatalf("Frame: error %d", e)
	}
	return o
}

// lived is a machine in the midst of a life, with its model: cells on both stacks, banks, tones of its last frame.
func lived(t *testing.T) (*vm.Machine, *world, api.Cart) {
	t.Helper()
	// 7 >r; 5 1 do; i dup 440 tone; i 30000 +! i; loop; a tail that counts for ever and yields
	c := carted(6, 7, 110, 6, 5, 6, 1, 12, 116, 24, 6, 440, 28, 124, 116, 6, 32768, 108, 116, 14, 146, 20, 6, 1, 6, 32770, 108, 8, 172)
	c.Banks = []api.Bank{{Num: 2, Data: []byte{5, 6}}, {Num: 9, Data: []byte{7}}}
	m, w := made(t, c), newWorld(c)
	for _, budget := range []int{30, 5, 20} {
		o, e := m.Frame(uint8(budget), budget)
		if e != fine {
			t.Fatalf("Frame: %d", e)
		}
		sameOut(t, o, w.frame(uint8(budget), budget), "lived")
	}
	w.same(t, m, "lived")
	if s := m.State(); s.Status != running || len(s.Data) == 0 || len(s.Return) != 3 || len(m.Memory().Tones()) == 0 {
		t.Fatalf("lived: %v, tones %v: it should have more", s, m.Memory().Tones())
	}
	return m, w, c
}

func writeOver[T any](list []T, x T) {
	list = list[:cap(list)]
	for i := range list {
		list[i] = x
	}
}

// writeOverState writes over all lists of a State, spare room too.
func writeOverState(s vm.State) {
	writeOver(s.Data, 222)
	writeOver(s.Return, cell(limit, 222))
}

func TestStateIsNew(t *testing.T) { // 8.5, R3
	m, w, _ := lived(t)
	for range 2 {
		s := m.State()
		writeOverState(s)
		_ = append(s.Data, 1, 2, 3)
		_ = append(s.Return, cell(1, 1), cell(1, 1))
		w.same(t, m, "State written over")
	}
	s := m.State()
	want := vm.State{At: s.At, Status: s.Status, Data: slices.Clone(s.Data), Return: slices.Clone(s.Return)}
	for range 20 {
		m.Step()
	}
	sameState(t, s, want, "a State behind later steps")
}

func TestMemoryIsTheMachinesOwn(t *testing.T) { // 8.5
	m := made(t, carted(6, 0x8000, 104, 6, 0x8001, 104, 122, 6, 3, 126, 6, 0x4000, 104)) // 8000 c@ 8001 c@ pad 3 bank 4000 c@
	a := m.Memory()
	if a == nil || a != m.Memory() {
		t.Fatal("Memory is not one and the same")
	}
	a.Begin(77)
	a.Store(0x8000, 11)
	for range 2 {
		m.Step()
	}
	a.Store(0x8001, 12)
	for range 3 {
		m.Step()
	}
	stands(t, m, 144, running, none, []uint16{11, 12, 77})
	for range 2 {
		m.Step()
	}
	if a.Load(0xff00) != 3 || m.Memory() != a {
		t.Error("what the machine does is not done to its memory")
	}
	framed(t, m, 100, faulted, fetch, 2, 4)
	if m.Memory() != a || a.Cell(0xff08) != 2 {
		t.Error("a frame is not begun in the machine's memory")
	}
}

func TestCopy(t *testing.T) { // 8.5: the same, tones too; then neither sees the other
	for _, first := range []string{"the machine", "its copy"} {
		m, w, _ := lived(t)
		twin := m.Copy()
		if twin == nil || twin == m || twin.Memory() == m.Memory() || twin.Memory() == nil {
			t.Fatal("Copy is no other machine")
		}
		w.same(t, twin, "a copy")
		one, two := m, twin
		if first == "its copy" {
			one, two = twin, m
		}
		still := w.copy()
		for range 300 {
			if one.Step() != w.step() {
				t.Fatal("yields part")
			}
			w.same(t, one, first, "that goes on")
		}
		still.same(t, two, "the other one, which did nothing")
		for at := 0x4000; at < 0xcc00; at++ {
			one.Memory().Store(uint16(at), 222)
		}
		one.Memory().Play(1, 2)
		still.same(t, two, "the other one, behind writes")
		for budget := 4; budget < 60; budget++ {
			o, _ := two.Frame(9, budget)
			sameOut(t, o, still.frame(9, budget), "the other one's frames")
			still.same(t, two, "the other one's frames")
		}
	}
}

func TestCopyStandsAnywhere(t *testing.T) { // 8.5: of what does not run, with full stacks, and of a copy
	data, ret := make([]uint16, 256), make([]api.Cell, 128)
	for i := range data {
		data[i] = uint16(i * 251)
	}
	for i := range ret {
		ret[i] = cell(1+i%4, uint16(i*509))
	}
	c := carted(18)
	x := made(t, c).Memory().Image()
	for _, s := range []vm.State{{At: 1, Status: halted, Data: data, Return: ret}, {At: 65535, Status: faulted, Fault: rOver, Data: data[:255], Return: ret[:127]}, {Status: running}} {
		m := restored(t, c, s, x)
		sameState(t, m.Copy().Copy().State(), s, "a copy's copy")
	}
}

func TestCopiesHaveTheirCode(t *testing.T) { // 8.5, R3: what the cartridge was is written over
	c := carted(6, 7, 6, 0, 48, 16)
	m := made(t, c)
	twin := m.Copy()
	writeOver(c.Code, 0)
	framed(t, twin, 100, halted, none, 4, 10)
	framed(t, m, 100, halted, none, 4, 10)
}

func TestNilMachine(t *testing.T) { // 8.4, 8.5, R1
	var m *vm.Machine
	if p, x, f := m.Look(); p != (api.Prim{}) || x != 0 || f != none {
		t.Errorf("Look = %v, %d, %d", p, x, f)
	}
	if m.Step() || m.Memory() != nil || m.Copy() != nil || !reflect.DeepEqual(m.State(), vm.State{}) {
		t.Error("a nil machine tells something")
	}
	for _, budget := range []int{-1, 3, 4, 100, 16384, 16385} {
		if o, e := m.Frame(1, budget); e != noHandle || !reflect.DeepEqual(o, api.Out{}) {
			t.Errorf("Frame of a nil machine = %v, %d", o, e)
		}
	}
}

// goodImage is one for a cartridge with the banks 2 and 9.
func goodImage() mem.Image {
	m := filled(rand.New(rand.NewSource(3)), 2, 9)
	m.Choose(9)
	return m.Image()
}

func goodCart() api.Cart {
	c := carted(6, 3, 6, 0, 12, 116, 14, 140, 16)
	c.Banks = []api.Bank{{Num: 2, Data: []byte{5, 6}}, {Num: 9}}
	return c
}

func goodState() vm.State {
	return vm.State{At: 138, Status: running, Data: []uint16{1, 2, 3}, Return: []api.Cell{cell(call, 8), cell(saved, 7)}}
}

func TestRestore(t *testing.T) { // 8.6: it stands there; the memory is the image's, not the cartridge's
	m := restored(t, goodCart(), goodState(), goodImage())
	sameState(t, m.State(), goodState(), "Restore")
	if !reflect.DeepEqual(m.Memory().Image(), goodImage()) || len(m.Memory().Tones()) != 0 {
		t.Error("Restore: another memory than the image's")
	}
	m.Memory().Store(0xff06, 5)
	if tones := m.Memory().Tones(); len(tones) != 1 || tones[0].Cycle != 0 {
		t.Errorf("Restore: a tone behind it is %v", tones)
	}
	m.Step()
	sameState(t, m.State(), vm.State{At: 140, Status: running, Data: []uint16{1}, Return: append(goodState().Return, cell(limit, 2), cell(index, 3))}, "a step behind Restore")
}

// badStates are what 8.6 refuses of a State.
var badStates = map[string]func(s *vm.State){
	"no cartridge":      func(s *vm.State) { s.Status = 0 },
	"the status 4":      func(s *vm.State) { s.Status = 4 },
	"the status -1":     func(s *vm.State) { s.Status = -1 },
	"4 and a fault":     func(s *vm.State) { s.Status, s.Fault = 4, under },
	"0 and a fault":     func(s *vm.State) { s.Status, s.Fault = 0, under },
	"running, a fault":  func(s *vm.State) { s.Fault = under },
	"running, fault 7":  func(s *vm.State) { s.Fault = fetch },
	"running, fault -1": func(s *vm.State) { s.Fault = -1 },
	"running, fault 8":  func(s *vm.State) { s.Fault = 8 },
	"halted, a fault":   func(s *vm.State) { s.Status, s.Fault = halted, under },
	"halted, fault 7":   func(s *vm.State) { s.Status, s.Fault = halted, fetch },
	"faulted, none":     func(s *vm.State) { s.Status, s.Fault = faulted, none },
	"faulted, fault 8":  func(s *vm.State) { s.Status, s.Fault = faulted, 8 },
	"faulted, fault -1": func(s *vm.State) { s.Status, s.Fault = faulted, -1 },
	"257 cells":         func(s *vm.State) { s.Data = make([]uint16, 257) },
	"129 cells":         func(s *vm.State) { s.Return = slices.Repeat([]api.Cell{cell(call, 1)}, 129) },
	"a lowest kind 0":   func(s *vm.State) { s.Return[0].Kind = 0 },
	"a top kind 0":      func(s *vm.State) { s.Return[1].Kind = 0 },
	"a kind 5":          func(s *vm.State) { s.Return[1].Kind = 5 },
	"a kind -1":         func(s *vm.State) { s.Return[0].Kind = -1 },
	"128 and a kind 5":  func(s *vm.State) { s.Return = append(slices.Repeat([]api.Cell{cell(call, 1)}, 127), cell(5, 1)) },
	"all that is wrong": func(s *vm.State) {
		*s = vm.State{Status: 9, Fault: 9, Data: make([]uint16, 300), Return: make([]api.Cell, 300)}
	},
	"the zero State":       func(s *vm.State) { *s = vm.State{} },
	"a halted one, a kind": func(s *vm.State) { s.Status, s.Return[0].Kind = halted, 5 },
}

// badImages are what 8.6 refuses of an image.
var badImages = map[string]func(x *mem.Image){
	"no Ram":           func(x *mem.Image) { x.Ram = nil },
	"long Ram":         func(x *mem.Image) { x.Ram = append(x.Ram, 0) },
	"short Screen":     func(x *mem.Image) { x.Screen = x.Screen[1:] },
	"long Screen":      func(x *mem.Image) { x.Screen = append(x.Screen, 0) },
	"Chosen 16":        func(x *mem.Image) { x.Chosen = 16 },
	"a short bank":     func(x *mem.Image) { x.Banks[1].Data = x.Banks[1].Data[1:] },
	"a long bank":      func(x *mem.Image) { x.Banks[1].Data = append(x.Banks[1].Data, 0) },
	"banks as in cart": func(x *mem.Image) { x.Banks = goodCart().Banks },
	"bank 16":          func(x *mem.Image) { x.Banks[1].Num = 16 },
	"equal banks":      func(x *mem.Image) { x.Banks[1].Num = 2 },
	"no banks":         func(x *mem.Image) { x.Banks = nil },
	"one bank":         func(x *mem.Image) { x.Banks = x.Banks[:1] },
	"another one bank": func(x *mem.Image) { x.Banks = x.Banks[1:] },
	"a first bank more": func(x *mem.Image) {
		x.Banks = append([]api.Bank{{Num: 0, Data: make([]byte, 16384)}}, x.Banks...)
	},
	"a last bank more": func(x *mem.Image) {
		x.Banks = append(x.Banks, api.Bank{Num: 10, Data: make([]byte, 16384)})
	},
	"another first bank": func(x *mem.Image) { x.Banks[0].Num = 3 },
	"another last bank":  func(x *mem.Image) { x.Banks[1].Num = 8 },
	"the zero image":     func(x *mem.Image) { *x = mem.Image{} },
}

func refuses(t *testing.T, what string, c api.Cart, s vm.State, x mem.Image, want api.Errno) {
	t.Helper()
	if m, e := vm.Restore(c, s, x); m != nil || e != want {
		t.Errorf("Restore with %s = %v, %d, want %d", what, m != nil, e, want)
	}
}

func TestRestoreOfWhatMayNotBe(t *testing.T) { // 8.6, R2: each reason alone
	for what, c := range carts.Refused() {
		refuses(t, what, c, goodState(), goodImage(), badCart)
	}
	for what, spoil := range badStates {
		s := goodState()
		spoil(&s)
		refuses(t, what, goodCart(), s, goodImage(), badInput)
	}
	for what, spoil := range badImages {
		x := goodImage()
		spoil(&x)
		refuses(t, what, goodCart(), goodState(), x, badInput)
	}
	c := goodCart()
	c.Banks = nil
	refuses(t, "banks that the cartridge has not", c, goodState(), goodImage(), badInput)
}

func TestRestoreTellsTheFirstError(t *testing.T) { // 8.6, R2: the cartridge comes first; two reasons are still one error
	for what, c := range carts.Refused() {
		for other, spoil := range badStates {
			s := goodState()
			spoil(&s)
			refuses(t, what+" and "+other, c, s, goodImage(), badCart)
			refuses(t, what+" and "+other+" and no image", c, s, mem.Image{}, badCart)
		}
	}
	for what, spoil := range badStates {
		for other, spoilToo := range badImages {
			s, x := goodState(), goodImage()
			spoil(&s)
			spoilToo(&x)
			refuses(t, what+" and "+other, goodCart(), s, x, badInput)
		}
	}
	for what, spoil := range badImages {
		x := goodImage()
		spoil(&x)
		refuses(t, "an odd code and "+what, api.Cart{Code: []byte{1}}, goodState(), x, badCart)
	}
}

func TestRestoreOfEdges(t *testing.T) { // 8.6, R4: what is just good
	var states []vm.State
	for fault := none; fault <= fetch; fault++ {
		status := faulted
		if fault == none {
			status = halted
		}
		states = append(states, vm.State{Status: status, Fault: fault})
	}
	for kind := call; kind <= saved; kind++ {
		states = append(states, vm.State{Status: running, Return: slices.Repeat([]api.Cell{cell(kind, 65535)}, 128)})
	}
	states = append(states,
		vm.State{Status: running, At: 65535, Data: slices.Repeat([]uint16{65535}, 256)},
		vm.State{Status: running, Data: []uint16{}, Return: []api.Cell{}},
		vm.State{Status: halted, Data: make([]uint16, 256), Return: slices.Repeat([]api.Cell{cell(call, 0)}, 128)})
	for _, s := range states {
		sameState(t, restored(t, goodCart(), s, goodImage()).State(), s, "Restore")
	}
	for what, c := range carts.JustTaken() {
		x := made(t, c).Memory().Image()
		m := restored(t, c, vm.State{Status: running}, x)
		if !reflect.DeepEqual(m.Memory().Image(), x) {
			t.Errorf("Restore with %s: another memory", what)
		}
	}
	x := mem.Image{Ram: make([]byte, 16384), Screen: make([]byte, 3072), Banks: []api.Bank{}, Chosen: 15}
	restored(t, api.Cart{}, vm.State{Status: running}, x)
}

// roomy tells the same list with spare room behind it, filled with x.
func roomy[T any](list []T, x T) []T {
	long := append(slices.Clone(list), slices.Repeat([]T{x}, 40)...)
	return long[:len(list)]
}

func spareStays[T comparable](list []T, x T) bool {
	for _, y := range list[len(list) : len(list)+40] {
		if y != x {
			return false
		}
	}
	return true
}

// busy is a cartridge that changes all that a program can: its banks, its variables, the screen, both stacks.
func busy() api.Cart {
	// 2 bank; begin 4000 c@ 1+ 4000 c!; 8000 @ 7 + 8000 !; pad c000 c!; 3 >r r@ r> drop yield again (a cell more each time)
	c := carted(6, 2, 126,
		6, 0x4000, 104, 64, 6, 0x4000, 106,
		6, 0x8000, 100, 6, 7, 42, 6, 0x8000, 102,
		122, 6, 0xc000, 106,
		6, 3, 110, 114, 112, 26, 20, 8, 136)
	c.Banks = []api.Bank{{Num: 2, Data: []byte{5, 6}}, {Num: 9, Data: []byte{1}}}
	return c
}

func TestWhatIsHandedInToNew(t *testing.T) { // R3: not changed, spare room too, and not kept
	c := busy()
	c.Code = roomy(c.Code, 123)
	c.Effects = roomy([]api.Effect{{At: 128}}, api.Effect{At: 9, In: 9, Out: 9})
	c.Banks = []api.Bank{{Num: 2, Data: roomy([]byte{5, 6}, 123)}, {Num: 9, Data: roomy([]byte{1}, 123)}}
	code, banks := slices.Clone(c.Code), []api.Bank{{Num: 2, Data: []byte{5, 6}}, {Num: 9, Data: []byte{1}}}
	m, w := made(t, c), newWorld(c)
	for pad := range uint8(50) {
		o, _ := m.Frame(pad, 100)
		sameOut(t, o, w.frame(pad, 100), "busy")
	}
	if !slices.Equal(c.Code, code) || !reflect.DeepEqual(c.Banks, banks) || c.Effects[0] != (api.Effect{At: 128}) {
		t.Error("New, or the machine, changed what was handed in")
	}
	if !spareStays(c.Code, 123) || !spareStays(c.Banks[0].Data, 123) || !spareStays(c.Banks[1].Data, 123) || !spareStays(c.Effects, api.Effect{At: 9, In: 9, Out: 9}) {
		t.Error("New, or the machine, changed spare room")
	}
	writeOver(c.Code, 222)
	writeOver(c.Banks[0].Data, 222)
	writeOver(c.Banks[1].Data, 222)
	writeOver(c.Banks, api.Bank{Num: 3})
	for pad := range uint8(50) {
		o, _ := m.Frame(pad, 100)
		sameOut(t, o, w.frame(pad, 100), "busy, its cartridge written over")
	}
	w.same(t, m, "busy, its cartridge written over")
}

func TestWhatIsHandedInToRestore(t *testing.T) { // R3
	c, s := busy(), vm.State{At: 136, Status: running, Data: roomy([]uint16{4, 5}, 123), Return: roomy([]api.Cell{cell(saved, 7)}, cell(call, 123))}
	x := goodImage()
	x.Chosen = 2
	x.Ram, x.Screen, x.Banks[0].Data = roomy(x.Ram, 123), roomy(x.Screen, 123), roomy(x.Banks[0].Data, 123)
	c.Code = roomy(c.Code, 123)
	w := newWorld(c)
	w.at, w.data, w.ret = 136, slices.Clone(s.Data), slices.Clone(s.Return)
	w.space, _ = mem.Restore(x)
	before, _ := mem.Restore(x)
	m := restored(t, c, s, x)
	for pad := range uint8(20) {
		o, _ := m.Frame(pad, 100)
		sameOut(t, o, w.frame(pad, 100), "busy")
	}
	if !reflect.DeepEqual(x, before.Image()) || !slices.Equal(s.Data, []uint16{4, 5}) || !slices.Equal(s.Return, []api.Cell{cell(saved, 7)}) || !slices.Equal(c.Code, w.code) {
		t.Error("Restore, or the machine, changed what was handed in")
	}
	if !spareStays(s.Data, 123) || !spareStays(s.Return, cell(call, 123)) || !spareStays(x.Ram, 123) || !spareStays(x.Screen, 123) || !spareStays(x.Banks[0].Data, 123) || !spareStays(c.Code, 123) {
		t.Error("Restore, or the machine, changed spare room")
	}
	writeOverState(s)
	writeOver(x.Ram, 222)
	writeOver(x.Screen, 222)
	writeOver(x.Banks[0].Data, 222)
	writeOver(x.Banks[1].Data, 222)
	writeOver(x.Banks, api.Bank{Num: 3})
	writeOver(c.Code, 222)
	for pad := range uint8(20) {
		o, _ := m.Frame(pad, 100)
		sameOut(t, o, w.frame(pad, 100), "busy, what was handed in written over")
	}
	w.same(t, m, "busy, what was handed in written over")
}

func TestNewMachinesAreApart(t *testing.T) { // R3, R5: two of one cartridge
	c := busy()
	one, two := made(t, c), made(t, c)
	w, v := newWorld(c), newWorld(c)
	for range 30 {
		o, _ := one.Frame(3, 100)
		sameOut(t, o, w.frame(3, 100), "one of two machines")
	}
	v.same(t, two, "the other machine")
	o, _ := two.Frame(5, 100)
	sameOut(t, o, v.frame(5, 100), "the other machine")
	w.same(t, one, "one of two machines")
}
