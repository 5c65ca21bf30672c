package vm_test

import (
	"math/rand"
	"reflect"
	"slices"
	"testing"

	"wisp/api"
	"wisp/carts"
	"wisp/mem"
	"wisp/prim"
	"wisp/stack"
	"wisp/vm"
)

// Errors, statuses, faults and kinds by the document's numbers, not by api's names: a slip in one of the two must show.
const (
	fine      = api.Errno(0)
	noHandle  = api.Errno(1)
	badInput  = api.Errno(2)
	badCart   = api.Errno(74)
	badBudget = api.Errno(190)

	running = api.Status(1)
	halted  = api.Status(2)
	faulted = api.Status(3)

	none   = api.Fault(0)
	under  = api.Fault(1)
	over   = api.Fault(2)
	rUnder = api.Fault(3)
	rOver  = api.Fault(4)
	other  = api.Fault(5)
	noOp   = api.Fault(6)
	fetch  = api.Fault(7)

	call  = 1
	limit = 2
	index = 3
	saved = 4
)

// costs are those of DOC.md's table, by the primitives' numbers.
var costs = [64]int{0,
	2, 2, 2, 2, 2, 3, 3, 2, // enter const lit branch zbranch do loop exit
	1, 1, 1, // nop yield halt
	1, 1, 1, 1, 1, 1, 1, 2, 1, // dup .. 2drop
	1, 1, 3, 4, 4, 4, 4, // + - * / mod u/ umod
	1, 1, 1, 1, 1, 1, 1, 1, // negate abs min max 1+ 1- 2* 2/
	1, 1, 1, 1, 1, 1, // and or xor invert lshift rshift
	1, 1, 1, 1, 1, 1, 1, 1, // = .. 0<
	2, 2, 2, 2, 3, // @ ! c@ c! +!
	1, 1, 1, 1, 1, // >r r> r@ i j
	3, 1, 2, 1, // plot pad tone bank
}

// coded tells cells as bytes.
func coded(cells ...uint16) []byte { return carts.Code(cells...) }

// carted is the cartridge of the examples: behind the table, at 128, main: its code field, then these cells.
func carted(cells ...uint16) api.Cart {
	return carts.Of(128, append([]uint16{1}, cells...)...)
}

func made(t *testing.T, c api.Cart) *vm.Machine {
	t.Helper()
	m, e := vm.New(c)
	if m == nil || e != fine {
		t.Fatalf("New = %v, %d", m != nil, e)
	}
	return m
}

func restored(t *testing.T, c api.Cart, s vm.State, x mem.Image) *vm.Machine {
	t.Helper()
	m, e := vm.Restore(c, s, x)
	if m == nil || e != fine {
		t.Fatalf("Restore = %v, %d", m != nil, e)
	}
	return m
}

func cell(kind int, value uint16) api.Cell { return api.Cell{Kind: kind, Value: value} }

// world says chapter 8 with plain lists; what a plain primitive does it asks of layer 6.
type world struct {
	code   []byte
	at     int
	status api.Status
	fault  api.Fault
	data   []uint16
	ret    []api.Cell
	space  *mem.Memory
}

func newWorld(c api.Cart) *world {
	space, _ := mem.New(c.Banks...)
	return &world{code: slices.Clone(c.Code), at: (int(c.Entry) + 2) % 65536, status: running, space: space}
}

func (w *world) copy() *world {
	twin := *w
	twin.data, twin.ret, twin.space = slices.Clone(w.data), slices.Clone(w.ret), w.space.Copy()
	return &twin
}

func (w *world) state() vm.State {
	return vm.State{At: uint16(w.at), Status: w.status, Fault: w.fault, Data: slices.Clone(w.data), Return: slices.Clone(w.ret)}
}

// machine is one that stands where the world does; its memory has no tones.
func (w *world) machine(t *testing.T) *vm.Machine {
	t.Helper()
	x := w.space.Image()
	return restored(t, api.Cart{Code: w.code, Banks: x.Banks}, w.state(), x)
}

// fetch tells the cell at an address, and whether it is in the code.
func (w *world) fetch(at int) (int, bool) {
	at %= 65536
	for n := 0; n+1 < len(w.code); n += 2 {
		if n == at {
			return int(w.code[n]) + 256*int(w.code[n+1]), true
		}
	}
	return 0, false
}

// look says 8.2.
func (w *world) look() (op, x int, f api.Fault) {
	if w.status != running {
		return 0, 0, none
	}
	thread, ok := w.fetch(w.at)
	if !ok {
		return 0, 0, fetch
	}
	op, ok = w.fetch(thread)
	if !ok {
		return 0, 0, fetch
	}
	if op == 0 || op > 63 {
		return 0, 0, noOp
	}
	switch op {
	case 3, 4, 5, 7:
		x, ok = w.fetch(w.at + 2)
	case 2:
		x, ok = w.fetch(thread + 2)
	case 1:
		x = (thread + 2) % 65536
	}
	if !ok {
		return 0, 0, fetch
	}
	return op, x, none
}

// fails tells the fault of DOC.md's list that a primitive of control meets.
func (w *world) fails(op int) api.Fault {
	deep := len(w.ret)
	switch {
	case op == 5 && len(w.data) == 0:
		return under
	case (op == 2 || op == 3) && len(w.data) == 256:
		return over
	case op == 7 && deep == 0:
		return rUnder
	case op == 7 && w.ret[deep-1].Kind != index:
		return other
	case op == 7 && deep == 1:
		return rUnder
	case op == 7 && w.ret[deep-2].Kind != limit:
		return other
	case op == 8 && deep > 0 && w.ret[deep-1].Kind != call:
		return other
	case op == 1 && deep == 128:
		return rOver
	}
	return none
}

// plain asks layer 6.
func (w *world) plain(op int) api.Fault {
	d, r, e := stack.Stacks(w.data, w.ret)
	if e != fine {
		panic("no stacks")
	}
	f := prim.Do(op, d, r, w.space)
	w.data, w.ret = d.Cells(), r.Cells()
	return f
}

// control does a primitive that is not plain and does not fail.
func (w *world) control(op, x int) {
	deep := len(w.ret)
	behind := (w.at + 2) % 65536
	if op == 3 || op == 4 || op == 5 || op == 7 {
		behind = (w.at + 4) % 65536
	}
	w.at = behind
	switch op {
	case 1:
		w.ret = append(w.ret, cell(call, uint16(behind)))
		w.at = x
	case 2, 3:
		w.data = append(w.data, uint16(x))
	case 4:
		w.at = x
	case 5:
		if w.data[len(w.data)-1] == 0 {
			w.at = x
		}
		w.data = w.data[:len(w.data)-1]
	case 7:
		next := (int(w.ret[deep-1].Value) + 1) % 65536
		if next == int(w.ret[deep-2].Value) {
			w.ret = w.ret[:deep-2]
		} else {
			w.ret[deep-1].Value = uint16(next)
			w.at = x
		}
	case 8:
		if deep == 0 {
			w.status = halted
		} else {
			w.at = int(w.ret[deep-1].Value)
			w.ret = w.ret[:deep-1]
		}
	case 11:
		w.status = halted
	}
}

func isPlain(op int) bool { return op == 6 || op == 9 || op >= 12 }

// step says 8.3.
func (w *world) step() (yielded bool) {
	if w.status != running {
		return false
	}
	op, x, f := w.look()
	if f == none && isPlain(op) {
		f = w.plain(op)
		if f == none {
			w.at = (w.at + 2) % 65536
		}
	} else if f == none {
		f = w.fails(op)
		if f == none {
			w.control(op, x)
		}
	}
	if f != none {
		w.status, w.fault = faulted, f
		return false
	}
	return op == 10
}

// frame says DOC.md's frame.
func (w *world) frame(pad uint8, budget int) api.Out {
	w.space.Begin(pad)
	o := api.Out{}
	for yielded := false; w.status == running && !yielded && o.Spent < budget; {
		op, _, f := w.look()
		if f == none && costs[op] > budget-o.Spent {
			break
		}
		w.space.At(o.Spent)
		yielded = w.step()
		if w.status != faulted {
			o.Spent += costs[op]
			o.Steps++
		}
	}
	o.Status, o.Fault, o.Idle = w.status, w.fault, budget-o.Spent
	o.Screen, o.Tones = w.space.Screen(), w.space.Tones()
	return o
}

// sameState holds where a machine stands against what is meant; an empty list may be nil or not.
func sameState(t *testing.T, got, want vm.State, what ...any) {
	t.Helper()
	if got.At != want.At || got.Status != want.Status || got.Fault != want.Fault || !slices.Equal(got.Data, want.Data) || !slices.Equal(got.Return, want.Return) {
		t.Fatalf("%v: State = %v, want %v", what, got, want)
	}
}

func sameMemory(t *testing.T, got, want *mem.Memory, what ...any) {
	t.Helper()
	one, two := got.Image(), want.Image()
	if !reflect.DeepEqual(one, two) || !slices.Equal(got.Tones(), want.Tones()) {
		t.Fatalf("%v: another memory than is meant, or other tones: %v, want %v", what, got.Tones(), want.Tones())
	}
}

// same holds all that a machine is against the world.
func (w *world) same(t *testing.T, m *vm.Machine, what ...any) {
	t.Helper()
	sameState(t, m.State(), w.state(), what...)
	sameMemory(t, m.Memory(), w.space, what...)
}

func sameOut(t *testing.T, got, want api.Out, what ...any) {
	t.Helper()
	same := slices.Equal(got.Screen, want.Screen) && slices.Equal(got.Tones, want.Tones)
	if !same || got.Status != want.Status || got.Fault != want.Fault || got.Steps != want.Steps || got.Spent != want.Spent || got.Idle != want.Idle {
		got.Screen, want.Screen = nil, nil
		t.Fatalf("%v: Frame = %v, want %v (screen and tones are the same: %v)", what, got, want, same)
	}
}

// lookSame holds Look against the world; and that it changes nothing.
func (w *world) lookSame(t *testing.T, m *vm.Machine, what ...any) {
	t.Helper()
	op, x, f := w.look()
	want := api.Prim{}
	if op > 0 {
		want, _ = prim.Of(op)
	}
	for range 2 {
		if p, y, g := m.Look(); p != want || int(y) != x || g != f {
			t.Fatalf("%v: at %d: Look = %v, %d, %d, want %v, %d, %d", what, w.at, p, y, g, want, x, f)
		}
	}
	sameState(t, m.State(), w.state(), append(what, "behind Look")...)
}

// framed plays a frame, and holds it against numbers that stand in the test.
func framed(t *testing.T, m *vm.Machine, budget int, status api.Status, fault api.Fault, steps, spent int) api.Out {
	t.Helper()
	o, e := m.Frame(0, budget)
	if e != fine || o.Status != status || o.Fault != fault || o.Steps != steps || o.Spent != spent || o.Idle != budget-spent || len(o.Screen) != 3072 {
		t.Errorf("Frame of %d cycles: status %d, fault %d, steps %d, spent %d, idle %d, %d pixels, error %d; want %d, %d, %d, %d, %d", budget, o.Status, o.Fault, o.Steps, o.Spent, o.Idle, len(o.Screen), e, status, fault, steps, spent, budget-spent)
	}
	return o
}

// stands holds where a machine stands against what stands in the test.
func stands(t *testing.T, m *vm.Machine, at uint16, status api.Status, fault api.Fault, data []uint16, ret ...api.Cell) {
	t.Helper()
	sameState(t, m.State(), vm.State{At: at, Status: status, Fault: fault, Data: data, Return: ret})
}

// filled is a memory in which hardly a byte is as its neighbours.
func filled(random *rand.Rand, numbers ...int) *mem.Memory {
	var banks []api.Bank
	for _, n := range numbers {
		data := make([]byte, 16384)
		random.Read(data)
		banks = append(banks, api.Bank{Num: n, Data: data})
	}
	m, _ := mem.New(banks...)
	m.Begin(0)
	m.Begin(uint8(random.Intn(256)))
	for at := 0x8000; at < 0xcc00; at++ {
		m.Store(uint16(at), uint8(random.Intn(256)))
	}
	m.SetCell(0xff04, uint16(random.Intn(65536)))
	return m
}
