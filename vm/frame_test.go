package vm_test

import (
	"math"
	"math/rand"
	"reflect"
	"slices"
	"testing"

	"wisp/api"
	"wisp/vm"
)

func TestBudgets(t *testing.T) { // 8.4: 4 to 16384; else an error and nothing has changed (R2); of whatever status
	c := carted(18, 8, 130)
	x := filled(rand.New(rand.NewSource(1))).Image()
	for _, s := range []vm.State{
		{At: 130, Status: running, Data: []uint16{1}, Return: []api.Cell{cell(saved, 2)}},
		{At: 130, Status: halted, Data: []uint16{1}},
		{At: 131, Status: faulted, Fault: fetch},
	} {
		for _, budget := range []int{math.MinInt, math.MinInt + 1, math.MinInt32, -16384, -4, -1, 0, 1, 2, 3, 16385, 16386, 32768, 65536 + 100, math.MaxInt32, 1<<32 + 100, math.MaxInt - 1, math.MaxInt} {
			m := restored(t, c, s, x)
			m.Memory().At(3)
			m.Memory().Store(0xff06, 7)
			if o, e := m.Frame(9, budget); e != badBudget || !reflect.DeepEqual(o, api.Out{}) {
				t.Errorf("Frame of %d cycles = %v, %d", budget, o, e)
			}
			sameState(t, m.State(), s, "behind a budget that may not be")
			image := m.Memory().Image()
			if tones := m.Memory().Tones(); len(tones) != 1 || image.Pad != x.Pad || image.Time != x.Time {
				t.Errorf("Frame of %d cycles has begun a frame", budget)
			}
		}
		for _, budget := range []int{4, 5, 6, 100, 16383, 16384} {
			w := newWorld(c)
			m := restored(t, c, s, x)
			w.at, w.status, w.fault, w.data, w.ret = int(s.At), s.Status, s.Fault, s.Data, slices.Clone(s.Return)
			w.space = m.Memory().Copy()
			o, e := m.Frame(9, budget)
			if e != fine || o.Spent+o.Idle != budget {
				t.Errorf("Frame of %d cycles: error %d, spent %d, idle %d", budget, e, o.Spent, o.Idle)
			}
			sameOut(t, o, w.frame(9, budget), "a budget that may be")
			w.same(t, m, "a budget that may be")
		}
	}
}

func TestFramesOfWhatDoesNotRun(t *testing.T) { // DOC.md, 'A frame': (1), (3), (4): gamepad, time, no tones, all idle, the pixels
	for _, cells := range [][]uint16{{6, 5, 6, 0xc000, 106, 6, 440, 24, 124, 22}, {6, 5, 6, 0xc000, 106, 6, 440, 24, 124, 26}} {
		m := made(t, carted(cells...))
		first := mustFrame(t, m, 100)
		want := api.Out{Status: halted, Steps: 7, Spent: 2 + 2 + 2 + 2 + 1 + 2 + 1, Screen: make([]byte, 3072), Tones: []api.Tone{{Cycle: 9, Pitch: 440, Volume: 440 % 256}}}
		if cells[9] == 26 {
			want.Status, want.Fault, want.Steps, want.Spent = faulted, under, 6, 11
		}
		want.Idle = 100 - want.Spent
		want.Screen[0] = 5
		sameOut(t, first, want, "the frame that ends it")
		s := m.State()
		for n := range 3 {
			o, e := m.Frame(uint8(200+n), 50)
			if e != fine {
				t.Fatalf("error %d", e)
			}
			want.Steps, want.Spent, want.Idle, want.Tones = 0, 0, 50, nil
			sameOut(t, o, want, "a later frame")
			sameState(t, m.State(), s, "a later frame")
			if a := m.Memory(); a.Pad() != uint8(200+n) || int(a.Cell(0xff08)) != n+2 || len(a.Tones()) != 0 {
				t.Errorf("a later frame: gamepad %d, time %d, tones %v", a.Pad(), a.Cell(0xff08), a.Tones())
			}
		}
	}
}

func TestCutOff(t *testing.T) { // 8.4, 8.7: what costs more than is left has not begun, and comes first in the next frame
	for _, x := range []struct {
		op, cost int
		data     []uint16
	}{{3, 2, nil}, {19, 2, []uint16{1, 2}}, {62, 2, []uint16{440, 3}}, {23, 3, []uint16{2, 3}}, {60, 3, []uint16{1, 2, 3}}, {24, 4, []uint16{6, 2}}} {
		behind := func(nops int) *vm.Machine {
			w := newWorld(carted(append(slices.Repeat([]uint16{18}, nops), uint16(2*x.op), 18, 18, 18, 18, 18)...))
			w.data = slices.Clone(x.data)
			return w.machine(t)
		}
		framed(t, behind(4-x.cost), 4, running, none, 5-x.cost, 4) // just enough is left

		m := behind(5 - x.cost) // one cycle too few
		if o := framed(t, m, 4, running, none, 5-x.cost, 5-x.cost); len(o.Tones) != 0 || !slices.Equal(o.Screen, make([]byte, 3072)) {
			t.Errorf("primitive %d has begun, though it was cut off", x.op)
		}
		stands(t, m, uint16(130+2*(5-x.cost)), running, none, x.data)
		if p, _, _ := m.Look(); p.Op != x.op || p.Cost != x.cost {
			t.Errorf("cut off ahead of %d: the next one is %v", x.op, p)
		}
		framed(t, m, 4, running, none, 1+4-x.cost, 4)
		if p, _, _ := m.Look(); p.Op != 9 {
			t.Errorf("behind %d, which was cut off, comes %v", x.op, p)
		}
	}
}

func TestAFaultIsMetInItsFrame(t *testing.T) { // DOC.md, 'A frame': what is not looked at does not fault; what costs too much does not either
	// four nops, then a thread that leads outside
	m := made(t, carted(18, 18, 18, 18, 20001))
	framed(t, m, 4, running, none, 4, 4)
	framed(t, m, 4, faulted, fetch, 0, 0)
	m = made(t, carted(18, 18, 18, 18, 20001))
	framed(t, m, 5, faulted, fetch, 4, 4)
	m = made(t, carted(18, 18, 18, 0))
	framed(t, m, 4, faulted, noOp, 3, 3)
	// a * on an empty stack, of which only one cycle is left
	m = made(t, carted(18, 18, 18, 46))
	framed(t, m, 4, running, none, 3, 3)
	framed(t, m, 4, faulted, under, 0, 0)
	// a lit without an operand costs nothing that could be too much
	m = made(t, carted(18, 18, 18, 6))
	framed(t, m, 4, faulted, fetch, 3, 3)
}

func TestYieldEndsTheFrame(t *testing.T) { // DOC.md, 'A frame'; a yield that spends the last cycle too
	m := made(t, carted(18, 20, 18, 18, 18, 20, 20, 22))
	framed(t, m, 100, running, none, 2, 2)
	stands(t, m, 134, running, none, nil)
	framed(t, m, 4, running, none, 4, 4)
	stands(t, m, 142, running, none, nil)
	framed(t, m, 16384, running, none, 1, 1)
	framed(t, m, 100, halted, none, 1, 1)
	framed(t, m, 100, halted, none, 0, 0)
	m = made(t, carted(18, 18, 18, 18, 20, 22)) // cut ahead of the yield, which comes first
	framed(t, m, 4, running, none, 4, 4)
	framed(t, m, 4, running, none, 1, 1)
	framed(t, m, 4, halted, none, 1, 1)
}

func TestHaltsWithTheLastCycle(t *testing.T) { // DOC.md, 'A frame'
	framed(t, made(t, carted(18, 18, 18, 22)), 4, halted, none, 4, 4)
	framed(t, made(t, carted(18, 18, 16)), 4, halted, none, 3, 4)
	m := made(t, carted(18, 18, 18, 16))
	framed(t, m, 4, running, none, 3, 3)
	framed(t, m, 4, halted, none, 1, 2)
}

func TestTonesHaveTheirCycles(t *testing.T) { // 8.4: the cycles spent ahead of the instruction, in this frame
	// lit 440, lit 9, tone, nop, lit 1, lit ff06, c!, lit 3, lit ff06, !, yield, and again
	m := made(t, carted(6, 440, 6, 9, 124, 18, 6, 1, 6, 0xff06, 106, 6, 0x0103, 6, 0xff06, 102, 20, 8, 130))
	want := []api.Tone{{Cycle: 4, Pitch: 440, Volume: 9}, {Cycle: 11, Pitch: 440, Volume: 1}, {Cycle: 17, Pitch: 440, Volume: 3}}
	o := framed(t, m, 1000, running, none, 11, 20)
	if !slices.Equal(o.Tones, want) || !slices.Equal(m.Memory().Tones(), want) {
		t.Errorf("tones %v, want %v", o.Tones, want)
	}
	for i := range want { // the branch back comes first now
		want[i].Cycle += 2
	}
	o = framed(t, m, 1000, running, none, 12, 22)
	if !slices.Equal(o.Tones, want) {
		t.Errorf("tones %v, want %v", o.Tones, want)
	}
	m = made(t, carted(6, 440, 6, 9, 124, 22)) // cut ahead of the tone: it is the next frame's first instruction
	if o = framed(t, m, 5, running, none, 2, 4); len(o.Tones) != 0 {
		t.Errorf("tones %v of a frame that plays none", o.Tones)
	}
	o = framed(t, m, 5, halted, none, 2, 3)
	if !slices.Equal(o.Tones, []api.Tone{{Cycle: 0, Pitch: 440, Volume: 9}}) {
		t.Errorf("tones %v", o.Tones)
	}
}

func TestTonesThatTheMemoryHasPlayed(t *testing.T) { // DOC.md, 'A frame': (1): there are no tones, and the cycle is the frame's
	m := made(t, carted(6, 440, 24, 124, 22))
	m.Memory().At(500)
	m.Memory().Play(1, 2)
	o := framed(t, m, 100, halted, none, 4, 6)
	if !slices.Equal(o.Tones, []api.Tone{{Cycle: 3, Pitch: 440, Volume: 440 % 256}}) {
		t.Errorf("tones %v", o.Tones)
	}
}

func TestGamepadAndTime(t *testing.T) { // DOC.md, 'A frame': (1)
	// begin pad ff08 @ yield again
	m := made(t, carted(122, 6, 0xff08, 100, 20, 8, 130))
	var want []uint16
	for n, pad := range []uint8{0, 255, 7, 7} {
		if o, e := m.Frame(pad, 50); e != fine || o.Status != running {
			t.Fatalf("Frame: %d", e)
		}
		want = append(want, uint16(pad), uint16(n+1))
		stands(t, m, 140, running, none, want)
	}
}

func TestOutIsNew(t *testing.T) { // R3
	m, w := made(t, busyTones()), newWorld(busyTones())
	for pad := range uint8(20) {
		o, _ := m.Frame(pad, 60)
		sameOut(t, o, w.frame(pad, 60), "busy")
		kept := api.Out{Screen: slices.Clone(o.Screen), Tones: slices.Clone(o.Tones)}
		ahead := m.Copy()
		ahead.Frame(99, 60)
		m.Memory().Tones()
		if !slices.Equal(o.Screen, kept.Screen) || !slices.Equal(o.Tones, kept.Tones) {
			t.Fatal("an Out follows what comes later")
		}
		_ = append(o.Tones, api.Tone{Cycle: 1})
		writeOver(o.Screen, 222)
		writeOver(o.Tones, api.Tone{Cycle: 222, Pitch: 222, Volume: 222})
		w.same(t, m, "an Out written over")
	}
	o, _ := m.Frame(3, 60)
	kept := api.Out{Screen: slices.Clone(o.Screen), Tones: slices.Clone(o.Tones)}
	for range 5 {
		m.Frame(77, 60)
	}
	if !slices.Equal(o.Screen, kept.Screen) || !slices.Equal(o.Tones, kept.Tones) || len(kept.Tones) == 0 {
		t.Error("an Out follows later frames")
	}
}

// busyTones is a cartridge that plots and plays the gamepad in each frame: three tones, so that their list has spare room.
func busyTones() api.Cart {
	// begin pad dup pad plot; pad 1 tone pad 2 tone pad 3 tone; yield again
	return carted(122, 24, 122, 120, 122, 6, 1, 124, 122, 6, 2, 124, 122, 6, 3, 124, 20, 8, 130)
}

// anyCells is code behind the table: mostly threads to primitives, with operands that lead to cells nearby; words, constants and nonsense among them.
func anyCells(random *rand.Rand) []uint16 {
	many := 5 + random.Intn(40)
	var cells []uint16
	near := func() uint16 { return uint16(128 + 2*random.Intn(many)) }
	for len(cells) < many {
		switch random.Intn(24) {
		case 0, 1, 2, 3, 4, 5, 6:
			cells = append(cells, 6, uint16(random.Intn(4)))
		case 7:
			cells = append(cells, 6, []uint16{0x8000, 0x8001, 0x4000, 0xc000, 0xff00, 0xff02, 0xff04, 0xff06, 0xff08, 130}[random.Intn(10)])
		case 8:
			cells = append(cells, 8, near())
		case 9:
			cells = append(cells, 10, near())
		case 10:
			cells = append(cells, 14, near())
		case 11:
			cells = append(cells, near())
		case 12:
			cells = append(cells, 1, near())
		case 13:
			cells = append(cells, 2, uint16(random.Intn(65536)))
		case 14:
			cells = append(cells, uint16(random.Intn(150)))
		case 15:
			cells = append(cells, 6, 3, 6, 0, 12)
		case 16:
			cells = append(cells, 20)
		case 17:
			cells = append(cells, 6, uint16(random.Intn(4)), 110)
		default:
			cells = append(cells, uint16(2+2*random.Intn(63)))
		}
	}
	return cells
}

// anyCart is one that may be; hardly any would be accepted.
func anyCart(random *rand.Rand) api.Cart {
	c := carted(anyCells(random)...)
	if random.Intn(3) == 0 {
		c.Banks = []api.Bank{{Num: random.Intn(4), Data: []byte{1, 2, 3}}}
	}
	return c
}

// anyBudget is small more often than not.
func anyBudget(random *rand.Rand) int {
	if random.Intn(20) == 0 {
		return 4 + random.Intn(16381)
	}
	return 4 + random.Intn(40)
}

// exact holds 8.7 of a frame that a machine has played.
func exact(t *testing.T, m *vm.Machine, o api.Out, budget int, yielded bool) {
	t.Helper()
	p, _, f := m.Look()
	ended := o.Idle == 0 || f == none && p.Cost > o.Idle || yielded || o.Status != running
	if o.Spent+o.Idle != budget || o.Spent < 0 || o.Idle < 0 || o.Steps > o.Spent || !ended {
		t.Fatalf("8.7: budget %d: steps %d, spent %d, idle %d, status %d, the next one %v", budget, o.Steps, o.Spent, o.Idle, o.Status, p)
	}
}

// asOne does by Step what a frame of another machine did, and holds the two machines against each other; it tells whether the frame ended by a yield.
func asOne(t *testing.T, stepped, framed *vm.Machine, pad uint8, o api.Out, was api.Status) bool {
	t.Helper()
	stepped.Memory().Begin(pad)
	many := o.Steps
	if was == running && o.Status == faulted {
		many++
	}
	yielded := false
	for range many {
		if yielded {
			t.Fatal("8.8: a frame goes on behind a yield")
		}
		yielded = stepped.Step()
	}
	sameState(t, stepped.State(), framed.State(), "8.8: frames and steps part")
	if !reflect.DeepEqual(stepped.Memory().Image(), framed.Memory().Image()) {
		t.Fatal("8.8: the memories of frames and steps part")
	}
	tones := stepped.Memory().Tones()
	for i := range tones {
		if i >= len(o.Tones) || tones[i].Pitch != o.Tones[i].Pitch || tones[i].Volume != o.Tones[i].Volume {
			t.Fatalf("8.8: the tones of frames and steps part: %v, %v", o.Tones, tones)
		}
	}
	if len(tones) != len(o.Tones) {
		t.Fatalf("8.8: the tones of frames and steps part: %v, %v", o.Tones, tones)
	}
	return yielded
}

func TestLives(t *testing.T) { // 8.1 to 8.9: any code, gamepads and budgets: against the model, against Step, by copies and restored machines
	random := rand.New(rand.NewSource(88))
	ended := map[api.Fault]int{}
	long := 0
	for range 1500 {
		c := anyCart(random)
		m, w := made(t, c), newWorld(c)
		twin := m.Copy()
		for n := range 12 {
			was, pad, budget := m.State().Status, uint8(random.Intn(256)), anyBudget(random)
			o, e := m.Frame(pad, budget)
			if e != fine {
				t.Fatalf("Frame: error %d", e)
			}
			sameOut(t, o, w.frame(pad, budget), "a life", n)
			w.same(t, m, "a life", n)
			exact(t, m, o, budget, asOne(t, twin, m, pad, o, was))
			switch random.Intn(4) {
			case 0:
				m = restored(t, c, m.State(), m.Memory().Image())
			case 1:
				m = m.Copy()
			}
		}
		ended[w.fault]++
		if w.status == running {
			long++
		}
	}
	for fault := none; fault <= fetch; fault++ {
		if ended[fault] == 0 {
			t.Errorf("no life ended with the fault %d: the lives are too much alike", fault)
		}
	}
	if long < 50 {
		t.Errorf("only %d lives go on", long)
	}
}

func TestRestoredGoesOn(t *testing.T) { // 8.9: from behind any frame of any life, and the machine itself does not see it
	random := rand.New(rand.NewSource(89))
	for range 200 {
		c := anyCart(random)
		m := made(t, c)
		for range random.Intn(4) {
			m.Frame(uint8(random.Intn(256)), anyBudget(random))
		}
		again := restored(t, c, m.State(), m.Memory().Image())
		sameState(t, again.State(), m.State(), "restored")
		for range 6 {
			pad, budget := uint8(random.Intn(256)), anyBudget(random)
			one, _ := m.Frame(pad, budget)
			two, e := again.Frame(pad, budget)
			if e != fine {
				t.Fatal(e)
			}
			sameOut(t, two, one, "a restored machine's frame")
			sameState(t, again.State(), m.State(), "a restored machine's frame")
			sameMemory(t, again.Memory(), m.Memory(), "a restored machine's frame")
		}
	}
}

func TestStatesThatNoLifeLeadsTo(t *testing.T) { // 8.3, 8.6, 8.7: whatever stands on the stacks, wherever the machine stands
	random := rand.New(rand.NewSource(90))
	all := returns(random)
	for range 3000 {
		w := newWorld(anyCart(random))
		w.at = random.Intn(len(w.code) + 6)
		w.data = cells(random, heights[random.Intn(len(heights))])
		w.ret = slices.Clone(all[random.Intn(len(all))])
		m := w.machine(t)
		budget := anyBudget(random)
		want := w.frame(5, budget)
		o, e := m.Frame(5, budget)
		if e != fine || o.Spent+o.Idle != budget || o.Steps > o.Spent {
			t.Fatalf("Frame: error %d, %v", e, o.Spent)
		}
		sameOut(t, o, want, "a state that no life leads to")
		w.same(t, m, "a state that no life leads to")
	}
}

func TestFramesCutAsTheyLike(t *testing.T) { // 8.8: a program that does not look at the time does the same, however its frames are cut
	// 0 begin 1+ dup 8000 ! dup 63 and over 6 rshift 47 min 3 plot again
	c := carted(6, 0, 64, 24, 6, 0x8000, 102, 24, 6, 63, 72, 30, 6, 6, 82, 6, 47, 60, 6, 3, 120, 8, 134)
	steps := made(t, c)
	many := 0
	random := rand.New(rand.NewSource(91))
	m := made(t, c)
	for range 200 {
		o, e := m.Frame(0, 4+random.Intn(300))
		if e != fine || o.Status != running {
			t.Fatalf("Frame: %d, status %d, fault %d", e, o.Status, o.Fault)
		}
		for range o.Steps {
			steps.Step()
		}
		many += o.Steps
		sameState(t, m.State(), steps.State(), "frames and steps", many)
		if !slices.Equal(o.Screen, steps.Memory().Screen()) {
			t.Fatal("frames and steps show other pixels")
		}
	}
	if many < 5000 {
		t.Errorf("only %d steps", many)
	}
}
