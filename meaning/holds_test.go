package meaning_test

import (
	"fmt"
	"math/rand"
	"reflect"
	"slices"
	"strings"
	"sync"
	"testing"

	"wisp/api"
	"wisp/cart"
	"wisp/carts"
	"wisp/comp"
	"wisp/emit"
	"wisp/meaning"
	"wisp/sources"
	"wisp/spare"
	"wisp/tree"
	"wisp/trees"
	"wisp/vm"
)

func anySource(r *rand.Rand) string {
	return sources.Any(r, func(src string) bool {
		_, _, e := tree.Parse(src)
		return e == fine
	})
}

// lives tell how they have ended, and which primitives have come next behind their frames.
type lives struct {
	sync.Mutex
	faults   map[api.Fault]int
	statuses map[api.Status]int
	next     map[int]int
}

// many plays a life of each of so many programs.
func (l *lives) many(t *testing.T, seed int64, programs int) {
	t.Helper()
	r := rand.New(rand.NewSource(seed))
	for range programs {
		src := anySource(r)
		x := pairOf(t, src, taken(t, src))
		var o api.Out
		var next []int
		for range 25 {
			o = x.frame(t, uint8(r.Intn(256)), carts.Budget(r))
			p, _, _ := x.coded.Look()
			next = append(next, p.Op)
		}
		l.ended(o, next)
	}
}

func (l *lives) ended(o api.Out, next []int) {
	l.Lock()
	defer l.Unlock()
	l.faults[o.Fault]++
	l.statuses[o.Status]++
	for _, op := range next {
		l.next[op]++
	}
}

func TestMeantIsCoded(t *testing.T) { // 15.6, 15.7, and 15.1 with 15.5: any programs, any lives, whose ends are of all sorts
	l := &lives{faults: map[api.Fault]int{}, statuses: map[api.Status]int{}, next: map[int]int{}}
	t.Run("lives", func(t *testing.T) {
		for part := range int64(8) {
			t.Run(fmt.Sprint(part), func(t *testing.T) {
				t.Parallel()
				l.many(t, 1560+part, 160)
			})
		}
	})
	for _, fault := range []api.Fault{none, under, rUnder, other} {
		if l.faults[fault] < 5 {
			t.Errorf("%d lives ended with the fault %d: they are too much alike", l.faults[fault], fault)
		}
	}
	if l.statuses[running] < 400 || l.statuses[halted] < 100 {
		t.Errorf("%d lives go on, %d have halted", l.statuses[running], l.statuses[halted])
	}
	for op := 1; op < 64; op++ {
		if l.next[op] == 0 {
			t.Errorf("the primitive %d has never come next", op)
		}
	}
}

func TestImagesAreMeant(t *testing.T) { // W3: of a source that is compiled, the frames of its image; of any other New has the same error
	r := rand.New(rand.NewSource(153))
	for range 100 {
		src := anySource(r)
		image, _, e := comp.Compile(src)
		c, f := cart.Decode(image)
		if e != fine || f != fine {
			t.Fatalf("the tests' own %s: %d, %d", src, e, f)
		}
		x := pairOf(t, src, taken(t, src))
		x.coded, _ = vm.New(c)
		for range 10 {
			x.frame(t, uint8(r.Intn(256)), carts.Budget(r))
		}
	}
	for _, src := range []string{
		"16384 buffer a variable b : main ;", ": main " + times(8127, "nop") + ";", "variable b 16383 buffer a : main " + times(9000, "nop") + ";", ": main " + times(4064, "1") + ";",
	} {
		_, _, want := comp.Compile(src)
		if m, e := meaning.New(taken(t, src)); m != nil || e != want || want == fine {
			t.Errorf("%.100s: %t, %d; Compile says %d", src, m != nil, e, want)
		}
	}
}

func TestStacksThatGrow(t *testing.T) { // 15.6: lives that end at the top of a stack
	for _, c := range []struct {
		src   string
		fault api.Fault
	}{
		{": main begin 1 again ;", over},
		{": main begin 1 >r again ;", rOver},
		{": main begin 1 dup >r again ;", rOver},
		{": w begin 1 2 drop again ; : main 7 >r w ;", over},
		{": main 1 begin 2dup again ;", under},
		{": main 1 2 begin 2dup again ;", over},
		{": main begin begin 1 >r 1 until 0 until ;", rOver},
		{": w 1 >r 2 >r begin 2 0 do i >r r> drop loop 3 >r again ; : main w ;", rOver},
		{": main 3 0 do begin j again loop ;", rUnder},
		{"7 constant k : main begin k again ;", over},
		{"variable v : w v v ; : main begin w again ;", over},
	} {
		for _, budget := range []int{4, 5, 37, 16384} {
			x := pairOf(t, c.src, taken(t, c.src))
			o := x.frame(t, 1, budget)
			for n := 0; n < 5000 && o.Status == running; n++ {
				o = x.frame(t, 1, budget)
			}
			if o.Status != faulted || o.Fault != c.fault {
				t.Errorf("%s: status %d, fault %d", c.src, o.Status, o.Fault)
			}
		}
	}
}

func TestFramesCutAsTheyLike(t *testing.T) { // 15.4, 15.7: a program that does not look at the time does the same, however its frames are cut
	const src = "variable v : dot dup 63 and over 6 rshift 47 min 3 plot ; : main 0 begin 1+ dup v ! 3 0 do i v +! loop dup 1 and if dot else dot then again ;"
	r := rand.New(rand.NewSource(157))
	machines, steps, met := []*meaning.Machine{made(t, src), made(t, src)}, []int{0, 0}, 0
	for range 5000 {
		i := 0 // the one that is behind
		if steps[1] < steps[0] {
			i = 1
		}
		o, e := machines[i].Frame(0, 4+r.Intn(100))
		if e != fine || o.Status != running || o.Steps == 0 || o.Idle > 3 {
			t.Fatalf("%d, status %d, steps %d, idle %d", e, o.Status, o.Steps, o.Idle)
		}
		if steps[i] += o.Steps; steps[0] != steps[1] {
			continue
		}
		met++
		a, b := machines[0].Memory().Image(), machines[1].Memory().Image()
		a.Time, b.Time = 0, 0
		if !reflect.DeepEqual(a, b) || !slices.Equal(machines[0].Data(), machines[1].Data()) || machines[0].Depth() != machines[1].Depth() {
			t.Fatal("the same steps in other frames have come to another end")
		}
	}
	if met < 50 {
		t.Errorf("the two have met %d times", met)
	}
}

// replaced is a copy of a program in which all places are others.
func replaced(r *rand.Rand, p api.Program) api.Program {
	p = spare.Program(p)
	other := func() api.Pos { return api.Pos{Line: r.Intn(9) - 4, Col: r.Intn(9) - 4} }
	for i := range p.Defs {
		p.Defs[i].Pos = other()
		trees.Each(p.Defs[i].Body, func(n *api.Node) { n.Pos = other() })
	}
	return p
}

func TestPlacesDoNotMatter(t *testing.T) { // 15.8: the same text with other gaps, and places that no text has; what Next tells is theirs
	r := rand.New(rand.NewSource(158))
	for range 150 {
		src := anySource(r)
		p := taken(t, src)
		gaps, moved := taken(t, sources.Dressed(r, strings.Fields(src)...)), replaced(r, p)
		if !tree.Same(p, gaps) || !tree.Same(p, moved) {
			t.Fatalf("the tests' own %s", src)
		}
		all := []*pair{pairOf(t, src, p), pairOf(t, src, gaps), pairOf(t, src, moved)}
		for range 15 {
			pad, budget := uint8(r.Intn(256)), carts.Budget(r)
			want := all[0].frame(t, pad, budget)
			for _, x := range all[1:] {
				if o := x.frame(t, pad, budget); !reflect.DeepEqual(o, want) {
					t.Fatalf("15.8: %s: %d, %d, %d; %d, %d, %d", src, o.Status, o.Fault, o.Spent, want.Status, want.Fault, want.Spent)
				}
			}
		}
	}
}

// wreck writes over all that a program has, its lists' room too.
func wreck(p api.Program) {
	for i := range p.Defs {
		wreckNodes(p.Defs[i].Body)
	}
	for i := range p.Banks {
		spare.Over(p.Banks[i].Data, 99)
	}
	spare.Over(p.Defs, api.Def{Kind: 2, Name: "gone", Value: 7})
	spare.Over(p.Banks, api.Bank{Num: 9})
}

func wreckNodes(list []api.Node) {
	for i := range list {
		wreckNodes(list[i].Then)
		wreckNodes(list[i].Else)
	}
	spare.Over(list, api.Node{Kind: 1, Op: 11, Pos: api.Pos{Line: 77, Col: 77}})
}

func TestTheProgramIsCopied(t *testing.T) { // 15.5, R3: what is handed to New stays, spare room too; what becomes of it is nothing to the machine
	r := rand.New(rand.NewSource(150))
	for range 150 {
		src := anySource(r)
		x := pairOf(t, src, taken(t, src))
		given := spare.Program(taken(t, src))
		before := spare.Whole(given)
		m := madeOf(t, given)
		if !reflect.DeepEqual(spare.Whole(given), before) {
			t.Fatalf("R3: %s: New has changed what it was handed", src)
		}
		x.meant = m
		for n := range 10 {
			x.frame(t, uint8(r.Intn(256)), carts.Budget(r))
			if n == 0 && !reflect.DeepEqual(spare.Whole(given), before) {
				t.Fatalf("R3: %s: Frame has changed what New was handed", src)
			}
			wreck(given)
		}
	}
	for _, x := range trees.Full() {
		given := spare.Program(x.Program)
		before := spare.Whole(given)
		if meaning.New(given); !reflect.DeepEqual(spare.Whole(given), before) {
			t.Errorf("R3: %s: New has changed what it was handed", x.What)
		}
	}
}

func TestWhatIsHandedOutIsApart(t *testing.T) { // R3: it may be written over, its room too; later frames do not change it
	const src = ": main begin pad dup pad plot pad 1 tone pad 2 tone pad 3 tone pad yield again ;"
	x := pairOf(t, src, taken(t, src))
	for range 20 {
		o := x.frame(t, 200, 60)
		data := x.meant.Data()
		screen, tones, cells := slices.Clone(o.Screen), slices.Clone(o.Tones), slices.Clone(data)
		x.frame(t, 99, 60)
		if !slices.Equal(o.Screen, screen) || !slices.Equal(o.Tones, tones) || !slices.Equal(data, cells) || len(tones) != 3 {
			t.Fatal("R3: what was handed out follows what comes later")
		}
		spare.Over(o.Screen, 222)
		spare.Over(o.Tones, api.Tone{Cycle: 222})
		spare.Over(data, 222)
		x.held(t)
		again := x.meant.Data()
		spare.Over(x.meant.Data(), 111)
		if want := x.coded.State().Data; !slices.Equal(again, want) {
			t.Fatalf("R3: %v, want %v", again, want)
		}
	}
}

func TestMachinesGoTheirWaysApart(t *testing.T) { // R3, R5: of one program, and of others between
	r := rand.New(rand.NewSource(151))
	for range 60 {
		src := anySource(r)
		p := taken(t, src)
		all := []*pair{pairOf(t, src, p), pairOf(t, src, p), pairOf(t, src, p)}
		for range 40 {
			x := all[r.Intn(len(all))]
			x.frame(t, uint8(r.Intn(256)), carts.Budget(r))
			if r.Intn(10) == 0 {
				pairOf(t, src, taken(t, anySource(r))).frame(t, 5, 100)
			}
		}
		for _, x := range all {
			x.held(t)
		}
	}
}

func TestTheSameAgain(t *testing.T) { // R5: a life is what its gamepads and budgets make it
	r := rand.New(rand.NewSource(152))
	for range 60 {
		p := taken(t, anySource(r))
		one, two := madeOf(t, p), madeOf(t, p)
		var outs []api.Out
		seed := r.Int63()
		for _, m := range []*meaning.Machine{one, two} {
			life := rand.New(rand.NewSource(seed))
			for n := range 15 {
				o, e := m.Frame(uint8(life.Intn(256)), carts.Budget(life))
				if e != fine {
					t.Fatal(e)
				}
				if m == one {
					outs = append(outs, o)
				} else if !reflect.DeepEqual(o, outs[n]) {
					t.Fatalf("R5: frame %d: %d, %d; the first time %d, %d", n, o.Status, o.Spent, outs[n].Status, outs[n].Spent)
				}
			}
		}
	}
}

func TestEmptyListsAreOne(t *testing.T) { // R4
	p := taken(t, ": w begin again ; : main 1 if else then begin 1 while repeat w ; 2 bank { }")
	q := taken(t, ": w begin again ; : main 1 if else then begin 1 while repeat w ; 2 bank { }")
	for i := range q.Defs {
		trees.Each(q.Defs[i].Body, func(n *api.Node) {
			n.Then, n.Else = slices.Concat([]api.Node{}, n.Then), slices.Concat([]api.Node{}, n.Else)
			if n.Then == nil {
				n.Then = []api.Node{}
			}
			if n.Else == nil {
				n.Else = []api.Node{}
			}
		})
	}
	q.Banks[0].Data = []byte{}
	x, y := pairOf(t, "nil lists", p), pairOf(t, "empty lists", q)
	for range 5 {
		if a, b := x.frame(t, 0, 50), y.frame(t, 0, 50); !reflect.DeepEqual(a, b) {
			t.Error("R4: an empty list is not as none")
		}
	}
}

func TestDeepAndWide(t *testing.T) { // R1, 15.6: as deep as structures may be, in each kind; as long as code may be
	for kind, flags := range map[int]string{4: "1", 5: "", 6: "", 7: "", 8: "9 8"} {
		for _, inner := range []string{"nop", "1", "0", ""} {
			body := taken(t, ": main "+inner+" ;").Defs[0].Body
			for range 32 {
				n := api.Node{Kind: kind, Then: body}
				if kind == 6 {
					n.Else = taken(t, ": main nop 1 ;").Defs[0].Body
				}
				body = append(taken(t, ": main "+flags+" ;").Defs[0].Body, n)
			}
			p := trees.Program(trees.Word("main", body...))
			if _, e := emit.Cart(p); e != fine {
				t.Fatalf("the tests' own: %d", e)
			}
			x := pairOf(t, fmt.Sprintf("32 of kind %d around %q", kind, inner), p)
			for _, budget := range []int{4, 16384, 5, 16384, 100} {
				x.frame(t, 0, budget)
			}
		}
	}
	long := trees.Program(trees.Word("main", trees.Prims(8126, 10)...))
	x := pairOf(t, "8126 times yield", long)
	for range 100 {
		x.frame(t, 0, 100)
	}
}
