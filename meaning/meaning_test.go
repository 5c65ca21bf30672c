package meaning_test

import (
	"math"
	"reflect"
	"slices"
	"strconv"
	"strings"
	"testing"

	"wisp/api"
	"wisp/emit"
	"wisp/meaning"
	"wisp/mem"
	"wisp/tree"
	"wisp/trees"
	"wisp/vm"
)

// Errors, statuses and faults by the document's numbers, not by api's names: a slip in one of the two must show.
const (
	fine      = api.Errno(0)
	noHandle  = api.Errno(1)
	tooMany   = api.Errno(110)
	badBudget = api.Errno(190)

	running = api.Status(1)
	halted  = api.Status(2)
	faulted = api.Status(3)

	none   = api.Fault(0)
	under  = api.Fault(1)
	over   = api.Fault(2)
	rUnder = api.Fault(3)
	rOver  = api.Fault(4)
	other  = api.Fault(5)
)

// taken is the program of a text.
func taken(t *testing.T, src string) api.Program {
	t.Helper()
	p, at, e := tree.Parse(src)
	if e != fine {
		t.Fatalf("the tests' own %.300q: %d at %v", src, e, at)
	}
	return p
}

func madeOf(t *testing.T, p api.Program) *meaning.Machine {
	t.Helper()
	m, e := meaning.New(p)
	if m == nil || e != fine {
		t.Fatalf("15.3: New of %.200v: %t, %d", p, m != nil, e)
	}
	return m
}

func made(t *testing.T, src string) *meaning.Machine {
	t.Helper()
	return madeOf(t, taken(t, src))
}

// framed plays a frame and holds it to these numbers.
func framed(t *testing.T, m *meaning.Machine, budget int, status api.Status, fault api.Fault, steps, spent int) api.Out {
	t.Helper()
	o, e := m.Frame(0, budget)
	if e != fine || o.Status != status || o.Fault != fault || o.Steps != steps || o.Spent != spent || o.Idle != budget-spent || len(o.Screen) != 3072 {
		t.Errorf("Frame of %d cycles: %d, status %d, fault %d, steps %d, spent %d, idle %d; want status %d, fault %d, steps %d, spent %d", budget, e, o.Status, o.Fault, o.Steps, o.Spent, o.Idle, status, fault, steps, spent)
	}
	return o
}

// wantNext holds what comes next to a place and a cost.
func wantNext(t *testing.T, m *meaning.Machine, col, cost int) {
	t.Helper()
	if at, c, is := m.Next(); !is || c != cost || at != (api.Pos{Line: 1, Col: col}) {
		t.Errorf("15.5: Next = %v, %d, %t, want 1:%d, %d", at, c, is, col, cost)
	}
}

func wantNoNext(t *testing.T, m *meaning.Machine) {
	t.Helper()
	if at, cost, is := m.Next(); is || cost != 0 || at != (api.Pos{}) {
		t.Errorf("15.5: Next = %v, %d, %t", at, cost, is)
	}
}

// wantStacks holds the data stack to cells, and the return stack to its length.
func wantStacks(t *testing.T, m *meaning.Machine, depth int, data ...uint16) {
	t.Helper()
	if got := m.Data(); !slices.Equal(got, data) || m.Depth() != depth {
		t.Errorf("data %v, depth %d; want %v, %d", got, m.Depth(), data, depth)
	}
}

func TestExample1(t *testing.T) { // 15.1, 15.2, 15.4
	m := made(t, ": main 7 0 / drop ;")
	framed(t, m, 100, halted, none, 5, 11)
	wantStacks(t, m, 0)
}

func TestExample2(t *testing.T) { // 15.2, 15.5
	m := made(t, ": sq dup * ; : main 5 sq drop ;")
	wantNext(t, m, 21, 2)
	framed(t, m, 100, halted, none, 7, 13)
	m = made(t, ": sq dup * ; : main 5 sq drop ;")
	framed(t, m, 10, running, none, 5, 10)
	wantStacks(t, m, 0, 25)
	wantNext(t, m, 26, 1)
}

func TestExample3(t *testing.T) { // 15.2, 15.4
	m := made(t, ": main begin yield again ;")
	framed(t, m, 100, running, none, 1, 1)
	for _, budget := range []int{100, 4, 16384, 100} {
		framed(t, m, budget, running, none, 2, 3)
	}
}

func TestExample4(t *testing.T) { // 15.2
	m := made(t, ": w r> ; : main w ;")
	framed(t, m, 100, faulted, other, 1, 2)
	wantStacks(t, m, 1)
	m = made(t, ": w 1 >r ; : main w ;")
	framed(t, m, 100, faulted, other, 3, 5)
	wantStacks(t, m, 2)
	m = made(t, ": main 1 >r ;")
	framed(t, m, 100, faulted, other, 2, 3)
	wantStacks(t, m, 1)
	m = made(t, ": main exit 1 ;")
	framed(t, m, 100, halted, none, 1, 2)
	wantStacks(t, m, 0)
}

func TestExample5(t *testing.T) { // 15.2
	m := made(t, ": w j drop ; : main 3 0 do w loop ;")
	framed(t, m, 100, faulted, other, 4, 2+2+3+2)
	wantStacks(t, m, 3)
	m = made(t, "variable v : w 1 >r j v +! r> drop ; : main 3 0 do w loop ;")
	framed(t, m, 1000, halted, none, 3+3*(9+1)+1, 7+3*(2+2+1+1+2+3+1+1+2+3)+2)
	if x := m.Memory().Cell(0x8000); x != 0+1+2 {
		t.Errorf("the indices come to %d", x)
	}
	framed(t, made(t, ": w 1 >r j r> drop drop ; : main 3 0 do w loop ;"), 1000, halted, none, 3+3*9+1, 7+3*(2+2+1+1+1+1+1+2+3)+2)
}

func TestExample6(t *testing.T) { // 15.3
	var src strings.Builder
	for i := range 600 {
		src.WriteString(": w" + strconv.Itoa(i) + " ; ")
	}
	if m, e := meaning.New(taken(t, src.String()+": main ;")); m != nil || e != tooMany {
		t.Errorf("%t, %d", m != nil, e)
	}
}

func TestErrorsOfNew(t *testing.T) { // 15.3: those of tree.Check, one by one; those of layout.Of; the first ones first; each limit just met is none
	for _, x := range slices.Concat(trees.Wrong(), trees.Full(), trees.Both()) {
		if m, e := meaning.New(x.Program); m != nil || e != x.Err {
			t.Errorf("%s: %t, %d, want %d", x.What, m != nil, e, x.Err)
		}
	}
	for _, p := range trees.JustTaken() {
		x := pairOf(t, "just taken", p)
		x.frame(t, 0, 16384)
		x.frame(t, 0, 4)
	}
}

func TestNewStandsAtMain(t *testing.T) { // 15.3, 15.5: wherever main is defined; empty stacks, the memory of the banks
	for _, src := range []string{": a 1 ; : main 2 a ; 3 bank { 9 8 7 }", ": main 2 ; : a main 1 ; variable v 3 bank { 9 8 7 }", ": a 1 ; : main 2 ; : b main main ; 3 bank { 9 8 7 }"} {
		m := made(t, src)
		wantNext(t, m, strings.Index(src, "2")+1, 2)
		wantStacks(t, m, 0)
		want, _ := mem.New(api.Bank{Num: 3, Data: []byte{9, 8, 7}})
		if got := m.Memory().Image(); !reflect.DeepEqual(got, want.Image()) || len(m.Memory().Tones()) != 0 {
			t.Errorf("%s: a memory of %d banks that has been used", src, len(got.Banks))
		}
	}
	m := made(t, ": main ;") // a body without nodes: its own exit
	wantNext(t, m, 3, 2)
	framed(t, m, 4, halted, none, 1, 2)
}

func TestNil(t *testing.T) { // 15.4, 15.5, R1: the handle's error comes ahead of the budget's
	var m *meaning.Machine
	for _, budget := range []int{-1, 3, 4, 100, 16384, 16385} {
		if o, e := m.Frame(0, budget); e != noHandle || !reflect.DeepEqual(o, api.Out{}) {
			t.Errorf("Frame of %d cycles: %v, %d", budget, o, e)
		}
	}
	wantNoNext(t, m)
	wantStacks(t, m, 0)
	if m.Memory() != nil {
		t.Error("a memory of nobody")
	}
}

func TestBudgets(t *testing.T) { // 15.4: 4 to 16384; else an error and nothing has changed (R2), of whatever status
	for _, src := range []string{": main 1 >r 2 3 + begin nop again ;", ": main 2 ;", ": main 1 2 drop drop drop ;"} {
		x := pairOf(t, src, taken(t, src))
		x.frame(t, 7, 10)
		for _, budget := range []int{math.MinInt, math.MinInt32, -16384, -4, -1, 0, 1, 2, 3, 16385, 16386, 65536 + 100, math.MaxInt32, 1<<32 + 100, math.MaxInt} {
			if o, e := x.meant.Frame(9, budget); e != badBudget || !reflect.DeepEqual(o, api.Out{}) {
				t.Errorf("Frame of %d cycles = %v, %d", budget, o, e)
			}
			x.held(t)
		}
		for _, budget := range []int{4, 5, 16383, 16384} {
			x.frame(t, 9, budget)
		}
	}
	framed(t, made(t, ": main begin nop nop again ;"), 4, running, none, 3, 4)
	framed(t, made(t, ": main begin nop nop again ;"), 16384, running, none, 3*4096, 16384)
}

func TestMemoryIsTheMachines(t *testing.T) { // 15.5: what is done to it is done to the machine's
	m := made(t, "variable v : main v @ begin v @ yield again ; 5 bank { 1 2 }")
	space := m.Memory()
	space.SetCell(0x8000, 1234)
	space.Plot(3, 0, 9)
	o := framed(t, m, 100, running, none, 5, 9)
	if o.Screen[3] != 9 || m.Memory() != space {
		t.Error("another memory")
	}
	wantStacks(t, m, 0, 1234, 1234)
	space.SetCell(0x8000, 77)
	framed(t, m, 100, running, none, 4, 7)
	wantStacks(t, m, 0, 1234, 1234, 77)
	if space.Cell(0xff08) != 2 {
		t.Errorf("%d frames have begun", space.Cell(0xff08))
	}
	space.At(500) // (1) of a frame: there are no tones, and the cycle is the frame's
	space.Play(1, 2)
	m.Data()
	if o := framed(t, m, 100, running, none, 4, 7); len(o.Tones) != 0 || o.Screen[3] != 9 {
		t.Errorf("tones %v", o.Tones)
	}
}

func TestTonesHaveTheirCycles(t *testing.T) { // 15.4: those spent in this frame ahead of the instruction
	m := made(t, ": w 440 9 tone ; : main begin nop w 1 65286 c! yield again ;")
	want := []api.Tone{{Cycle: 7, Pitch: 440, Volume: 9}, {Cycle: 15, Pitch: 440, Volume: 1}}
	if o := framed(t, m, 100, running, none, 10, 18); !slices.Equal(o.Tones, want) {
		t.Errorf("tones %v, want %v", o.Tones, want)
	}
	want[0].Cycle, want[1].Cycle = 9, 17 // the branch back comes first now
	if o := framed(t, m, 100, running, none, 11, 20); !slices.Equal(o.Tones, want) {
		t.Errorf("tones %v, want %v", o.Tones, want)
	}
	m = made(t, ": main 440 9 tone ;") // cut ahead of the tone: it is the next frame's first instruction
	if o := framed(t, m, 5, running, none, 2, 4); len(o.Tones) != 0 {
		t.Errorf("tones %v of a frame that plays none", o.Tones)
	}
	if o := framed(t, m, 5, halted, none, 2, 4); !slices.Equal(o.Tones, []api.Tone{{Cycle: 0, Pitch: 440, Volume: 9}}) {
		t.Errorf("tones %v", o.Tones)
	}
}

func TestNamesThatAreNoWords(t *testing.T) { // 15.2: a constant's value; a variable's or a buffer's address, behind those ahead of it
	m := made(t, "variable a 65535 constant k 300 buffer b 0 constant z 0 buffer c variable d : w d c ; : main a k b z w ; variable e")
	framed(t, m, 100, halted, none, 9, 18)
	wantStacks(t, m, 0, 0x8000, 65535, 0x8002, 0, 0x8000+302, 0x8000+302)
	p := trees.Program(trees.Variable("a", 16384), trees.Variable("b", 0), trees.Word("main", api.Node{Kind: 3, Name: "b"}))
	m = madeOf(t, p) // no bytes behind a full memory
	framed(t, m, 100, halted, none, 2, 4)
	wantStacks(t, m, 0, 0xc000)
}

func TestFramesOfWhatDoesNotRun(t *testing.T) { // 15.4: (1), (3), (4) of a frame: gamepad, time, no tones, all idle, the pixels
	for _, end := range []string{"halt", "exit", "drop", "r>"} {
		src := ": main 5 49152 c! 440 dup tone " + end + " ;"
		x := pairOf(t, src, taken(t, src))
		first := x.frame(t, 1, 100)
		if first.Status == running || first.Screen[0] != 5 || len(first.Tones) != 1 {
			t.Fatalf("%s: %d, tones %v", src, first.Status, first.Tones)
		}
		for n := range 3 {
			o := x.frame(t, uint8(200+n), 50+n)
			if o.Status != first.Status || o.Fault != first.Fault || o.Steps != 0 || o.Spent != 0 || o.Idle != 50+n || o.Screen[0] != 5 || len(o.Tones) != 0 {
				t.Errorf("%s: status %d, fault %d, steps %d, spent %d, idle %d, tones %v", src, o.Status, o.Fault, o.Steps, o.Spent, o.Idle, o.Tones)
			}
			if a := x.meant.Memory(); a.Pad() != uint8(200+n) || int(a.Cell(0xff08)) != n+2 {
				t.Errorf("%s: gamepad %d, time %d", src, a.Pad(), a.Cell(0xff08))
			}
		}
	}
}

// pair is a program's two machines, by its tree and by its code, and the place in the source of each instruction in the code.
type pair struct {
	what  string
	meant *meaning.Machine
	coded *vm.Machine
	at    map[uint16]api.Pos
}

func pairOf(t *testing.T, what string, p api.Program) *pair {
	t.Helper()
	c, e := emit.Cart(p)
	if e != fine {
		t.Fatalf("the tests' own %.300s: %d", what, e)
	}
	coded, e := vm.New(c)
	if e != fine {
		t.Fatalf("the tests' own %.300s: %d", what, e)
	}
	x := &pair{what: what, meant: madeOf(t, p), coded: coded, at: placesOf(p)}
	x.held(t)
	return x
}

// frame plays one of both, and holds 15.6 and 15.7.
func (x *pair) frame(t *testing.T, pad uint8, budget int) api.Out {
	t.Helper()
	o, e := x.meant.Frame(pad, budget)
	want, f := x.coded.Frame(pad, budget)
	if e != fine || f != fine {
		t.Fatalf("%.500s: Frame of %d cycles: %d, %d", x.what, budget, e, f)
	}
	if o.Status != want.Status || o.Fault != want.Fault || o.Steps != want.Steps || o.Spent != want.Spent || o.Idle != want.Idle || !slices.Equal(o.Tones, want.Tones) || !slices.Equal(o.Screen, want.Screen) {
		o.Screen, want.Screen = nil, nil
		t.Fatalf("15.6: %s: a frame of %d cycles is %+v; by the code %+v", x.what, budget, o, want)
	}
	if o.Spent+o.Idle != budget || o.Spent < 0 || o.Idle < 0 || o.Steps > o.Spent {
		t.Fatalf("15.7: %s: a frame of %d cycles: steps %d, spent %d, idle %d", x.what, budget, o.Steps, o.Spent, o.Idle)
	}
	x.held(t)
	return o
}

// held holds the one machine to what the other stands at: 15.6, and 15.5 with the places of 15.1.
func (x *pair) held(t *testing.T) {
	t.Helper()
	s := x.coded.State()
	if data, depth := x.meant.Data(), x.meant.Depth(); !slices.Equal(data, s.Data) || depth != len(s.Return) {
		t.Fatalf("15.6: %s: data %v, depth %d; by the code %v, %d", x.what, data, depth, s.Data, len(s.Return))
	}
	if !reflect.DeepEqual(x.meant.Memory().Image(), x.coded.Memory().Image()) {
		t.Fatalf("15.6: %s: the memories part", x.what)
	}
	at, cost, is := x.meant.Next()
	p, _, f := x.coded.Look()
	if want := x.at[s.At]; s.Status == running && (f != none || at != want || cost != p.Cost || !is) {
		t.Fatalf("15.5: %s: Next = %v, %d, %t; want %v, %d", x.what, at, cost, is, want, p.Cost)
	}
	if s.Status != running {
		wantNoNext(t, x.meant)
	}
}

// marks are the places in the source of instructions, by their addresses in the code.
type marks struct {
	at   map[uint16]api.Pos
	here int
}

// placesOf goes by the tables of DOC.md ('What a program comes to') and of chapter 12.
func placesOf(p api.Program) map[uint16]api.Pos {
	m := &marks{at: map[uint16]api.Pos{}, here: 128}
	for _, d := range p.Defs {
		m.here += 2
		if d.Kind != 1 {
			m.here += 2
			continue
		}
		m.body(d.Body)
		m.put(d.Pos, 1)
	}
	return m.at
}

func (m *marks) put(at api.Pos, cells int) {
	m.at[uint16(m.here)] = at
	m.here += 2 * cells
}

func (m *marks) body(list []api.Node) {
	for _, n := range list {
		switch n.Kind {
		case 1, 3, 9:
			m.put(n.Pos, 1)
		case 2:
			m.put(n.Pos, 2)
		case 4:
			m.put(n.Pos, 2)
			m.body(n.Then)
			if n.Has {
				m.put(n.Pos, 2)
				m.body(n.Else)
			}
		case 5, 7:
			m.body(n.Then)
			m.put(n.Pos, 2)
		case 6:
			m.body(n.Then)
			m.put(n.Pos, 2)
			m.body(n.Else)
			m.put(n.Pos, 2)
		case 8:
			m.put(n.Pos, 1)
			m.body(n.Then)
			m.put(n.Pos, 2)
		}
	}
}
