package flow_test

import (
	"math/rand"
	"reflect"
	"slices"
	"testing"

	"wisp/api"
	"wisp/carts"
	"wisp/emit"
	"wisp/flow"
	"wisp/sources"
	"wisp/spare"
	"wisp/tree"
)

// anyCart is of all sorts, a source's among them, now and then with some cells changed.
func anyCart(t *testing.T, r *rand.Rand) api.Cart {
	t.Helper()
	if r.Intn(4) > 0 {
		return carts.Any(r)
	}
	p, _, e := tree.Parse(sources.New(r).Some())
	c, f := emit.Cart(p)
	if e != fine || f != fine {
		t.Fatalf("the tests' own source: %d, %d", e, f)
	}
	for range r.Intn(3) {
		at := 2 * r.Intn(len(c.Code)/2)
		c.Code[at], c.Code[at+1] = byte(r.Intn(256)), 0
	}
	return c
}

// kinds tells how an answer was come to, so that the tests can ask whether there were enough of each.
func kinds(m *model, v api.Verdict) string {
	switch {
	case v.Err == fine && len(m.words) > 1:
		return "words"
	case v.Err == fine:
		return "a word"
	case v.Err != badTarget:
		return map[api.Errno]string{badCall: "call", badOpcode: "opcode", badFall: "fall"}[v.Err]
	}
	if _, _, e := m.instr(int(v.At)); e != fine {
		return "target"
	}
	for _, w := range m.words {
		if index(w.Instrs, int(v.At)) >= 0 {
			return "another word's"
		}
	}
	return "an operand"
}

func TestAgainstTheModel(t *testing.T) { // P16.1 to P16.4: any cartridges
	r := rand.New(rand.NewSource(161))
	met := map[string]int{}
	for range 30000 {
		c := anyCart(t, r)
		m := newModel(c)
		want, v := m.all(int(c.Entry))
		ws, u := flow.Words(c)
		if u != v || !alike(ws, want) {
			t.Fatalf("%v: Words = %v, %v, want %v, %v", c, ws, u, want, v)
		}
		// What is called holds 1: else it would be no enter that leads there.
		if u.Err == badCall && u.At != c.Entry {
			t.Fatalf("P16.2: %v: ErrCall at %d, which is not the entry", c, u.At)
		}
		met[kinds(m, v)]++
	}
	for _, kind := range []string{"words", "a word", "call", "opcode", "fall", "target", "another word's", "an operand"} {
		if met[kind] < 100 {
			t.Errorf("%s: %d; all: %v", kind, met[kind], met)
		}
	}
}

func TestOtherCellsDoNotMatter(t *testing.T) { // P16.6: whatever stands in the cells that the entry does not lead to
	r := rand.New(rand.NewSource(166))
	met := map[string]int{}
	for range 8000 {
		c := anyCart(t, r)
		m := newModel(c)
		_, v := m.all(int(c.Entry))
		met[kinds(m, v)]++
		ws, u := flow.Words(c)
		for range 3 {
			changed := c
			changed.Code = slices.Clone(c.Code)
			for at := 0; at < len(c.Code); at += 2 {
				if !m.asked[at] {
					copy(changed.Code[at:], carts.Code(uint16(r.Intn(300<<r.Intn(8)))))
				}
			}
			// Effects and banks do not matter either.
			changed.Effects = []api.Effect{{At: uint16(r.Intn(65536)), In: r.Intn(257), Out: r.Intn(257)}}
			changed.Banks = []api.Bank{{Num: r.Intn(16), Data: []byte{1, 2, 3}}}
			if got, g := flow.Words(changed); g != u || !alike(got, ws) {
				t.Fatalf("P16.6: %v: %v, %v; with other cells changed: %v, %v", c, ws, u, got, g)
			}
		}
	}
	for _, kind := range []string{"words", "a word", "call", "opcode", "fall", "target", "another word's", "an operand"} {
		if met[kind] < 20 {
			t.Errorf("%s: %d; all: %v", kind, met[kind], met)
		}
	}
}

// ways are P16.3's, by an instruction's fields.
func ways(x flow.Instr) []uint16 {
	switch x.Op {
	case 4:
		return ats(x.Operand)
	case 5, 7:
		return ats(x.Next, x.Operand)
	case 8, 11:
		return nil
	}
	return ats(x.Next)
}

func TestEveryWayStaysInItsWord(t *testing.T) { // P16.8, and P16.4's order and calls
	r := rand.New(rand.NewSource(168))
	found := 0
	for range 8000 {
		c := anyCart(t, r)
		ws, v := flow.Words(c)
		if v.Err != fine {
			continue
		}
		found++
		owner := map[uint16]uint16{}
		for _, w := range ws {
			for _, x := range w.Instrs {
				if _, is := owner[x.At]; is {
					t.Fatalf("P16.8: %v: %d is an instruction of two words: %v", c, x.At, ws)
				}
				owner[x.At] = w.At
			}
		}
		for i, w := range ws {
			if i > 0 && ws[i-1].At >= w.At || !slices.IsSorted(atsOf(w)) {
				t.Fatalf("P16.4: %v: not rising: %v", c, ws)
			}
			wantInside(t, ws, w, owner)
		}
		if !slices.ContainsFunc(ws, func(w flow.Word) bool { return w.At == c.Entry }) {
			t.Fatalf("P16.4: %v: no word at the entry: %v", c, ws)
		}
	}
	if found < 2000 {
		t.Errorf("only %d without a fault", found)
	}
}

// wantInside asks that each way of a word leads to instructions of its own, over no operand, and that its calls are words.
func wantInside(t *testing.T, ws []flow.Word, w flow.Word, owner map[uint16]uint16) {
	t.Helper()
	inside := func(at uint16) bool {
		of, is := owner[at]
		return is && of == w.At
	}
	if !inside(w.At + 2) {
		t.Fatalf("P16.2: its first instruction is none of its own: %v", w)
	}
	for _, x := range w.Instrs {
		for _, at := range ways(x) {
			if !inside(at) {
				t.Fatalf("P16.8: %v leads to %d, in %v", x, at, w)
			}
		}
		if slices.Contains(operands, x.Op) && inside(x.At+2) {
			t.Fatalf("P16.4: the operand of %v is an instruction, in %v", x, w)
		}
		if x.Op == 1 && !slices.Contains(w.Calls, x.Word) {
			t.Fatalf("P16.4: %v and the calls of %v", x, w)
		}
	}
	for i, at := range w.Calls {
		if i > 0 && w.Calls[i-1] >= at || !slices.ContainsFunc(w.Instrs, func(x flow.Instr) bool { return x.Op == 1 && x.Word == at }) {
			t.Fatalf("P16.4: the call of %d in %v", at, w)
		}
		if !slices.ContainsFunc(ws, func(w flow.Word) bool { return w.At == at }) {
			t.Fatalf("P16.4: %v calls %d, which is no word of %v", w, at, ws)
		}
	}
}

// full is code of 16384 bytes: the threads, a code field, then these cells again and again.
func full(cells func(at uint16) []uint16) api.Cart {
	all := append(carts.Threads(), 1)
	for {
		next := cells(uint16(2 * len(all)))
		if len(all)+len(next) > 8191 {
			break
		}
		all = append(all, next...)
	}
	for len(all) < 8192 {
		all = append(all, 16)
	}
	return api.Cart{Code: carts.Code(all...), Entry: 128}
}

func TestLongWords(t *testing.T) { // R1: every call ends, in a time that the code's length bears; P16.4: by their addresses
	for what, x := range map[string]struct {
		cart api.Cart
		many int // instructions; 0: there is a fault
	}{
		"one behind the other": {full(func(uint16) []uint16 { return ats(18) }), 8127},
		"to the end":           {full(func(uint16) []uint16 { return ats(10, 16382) }), 4064},
		"far ahead":            {full(func(at uint16) []uint16 { return ats(10, min(16382, at+8000)) }), 4064},
		"back to the first":    {full(func(uint16) []uint16 { return ats(10, 130) }), 4064},
		"back by halves":       {full(func(at uint16) []uint16 { return ats(10, (at-130)/8*4+130) }), 4064},
		// A branch leads over a nop to a zbranch, and that one back to the nop.
		"to and fro":   {full(func(at uint16) []uint16 { return ats(8, at+6, 18, 10, at+4) }), 4876},
		"out of order": {full(func(at uint16) []uint16 { return ats(10, at+2) }), 0},
	} {
		want, v := newModel(x.cart).all(128)
		ws, u := flow.Words(x.cart)
		if u != v || !alike(ws, want) {
			t.Errorf("%s: %v, want %v", what, u, v)
		}
		many := 0
		for _, w := range ws {
			many += len(w.Instrs)
		}
		if many != x.many {
			t.Errorf("%s: %d instructions, %v, want %d", what, many, u, x.many)
		}
	}
}

func TestManyWords(t *testing.T) { // R1: as many as there is room for
	const many = 2700
	cells := ats(1)
	for i := range many {
		cells = append(cells, uint16(128+2*(many+2)+4*i))
	}
	cells = append(cells, 16)
	for range many {
		cells = append(cells, 1, 16)
	}
	ws, v := flow.Words(at128(cells...))
	if v != (api.Verdict{}) || len(ws) != many+1 || len(ws[0].Calls) != many || len(ws[many].Instrs) != 1 {
		t.Fatalf("%d words, %v", len(ws), v)
	}
	order, v := flow.Order(ws)
	if v != (api.Verdict{}) || len(order) != many+1 || order[many] != 128 || !slices.IsSorted(order[:many]) {
		t.Errorf("%d words in their order, %v", len(order), v)
	}
}

func TestTheCartridgeStays(t *testing.T) { // R3, R5: spare room too; what lies there does not matter
	r := rand.New(rand.NewSource(163))
	for i := range 2000 {
		plain := anyCart(t, r)
		if i%2 == 0 {
			plain.Effects = []api.Effect{{At: 2, In: 1}}
			plain.Banks = []api.Bank{{Num: 1, Data: []byte{1}}, {Num: 2}}
		}
		if i%20 == 0 {
			plain.Banks = []api.Bank{{Num: 2, Data: []byte{1}}, {Num: 2}}
		}
		c := spare.Cart(plain)
		before := spare.WholeCart(c)
		ws, v := flow.Words(c)
		if !reflect.DeepEqual(spare.WholeCart(c), before) {
			t.Fatalf("%v: the cartridge has changed", plain)
		}
		want, u := flow.Words(plain)
		if u != v || !alike(ws, want) {
			t.Fatalf("%v: %v, %v; with room behind the lists: %v, %v", plain, want, u, ws, v)
		}
		// What was handed in may be written over, too.
		spare.Over(c.Code, 99)
		if !alike(ws, want) {
			t.Fatalf("%v: with the cartridge written over: %v, want %v", plain, ws, want)
		}
	}
}

// overWord writes over one of the lists of an answer, its room too: word by word the instructions and the calls, then the words themselves.
func overWord(ws []flow.Word, which int) {
	switch {
	case which == 2*len(ws):
		spare.Over(ws, flow.Word{At: 9, Calls: ats(9)})
	case which%2 == 0:
		spare.Over(ws[which/2].Instrs, flow.Instr{At: 9, Op: 9, Operand: 9, Word: 9, Next: 9})
	default:
		spare.Over(ws[which/2].Calls, 9)
	}
}

func TestWordsAreApart(t *testing.T) { // R3: two answers, and the lists of one
	r := rand.New(rand.NewSource(164))
	for range 1500 {
		c := anyCart(t, r)
		ws, _ := flow.Words(c)
		want := cloned(ws)
		for which := range 2*len(ws) + 1 {
			one, _ := flow.Words(c)
			two, _ := flow.Words(c)
			left := cloned(one)
			overWord(one, which)
			overWord(left, which)
			if !alike(one, left) || !alike(two, want) || !alike(ws, want) {
				t.Fatalf("%v: with list %d written over: %v, want %v; another answer: %v, want %v", c, which, one, left, two, want)
			}
			if three, _ := flow.Words(c); !alike(three, want) {
				t.Fatalf("%v: behind an answer that was written over: %v, want %v", c, three, want)
			}
		}
	}
}

// roomy is a list of words each of whose lists has room behind it.
func roomy(ws []flow.Word) []flow.Word {
	ws = spare.Given(ws, w(77, 77))
	for i := range ws {
		ws[i].Instrs = spare.Given(ws[i].Instrs, flow.Instr{At: 77, Op: 77})
		ws[i].Calls = spare.Given(ws[i].Calls, 77)
	}
	return ws
}

// whole is a copy in which the room stands as if it were in the lists.
func whole(ws []flow.Word) []flow.Word {
	ws = slices.Clone(ws[:cap(ws)])
	for i := range ws {
		ws[i].Instrs = slices.Clone(ws[i].Instrs[:cap(ws[i].Instrs)])
		ws[i].Calls = slices.Clone(ws[i].Calls[:cap(ws[i].Calls)])
	}
	return ws
}

func TestTheListOfWordsStays(t *testing.T) { // R3, R5: spare room too; what is told is apart
	r := rand.New(rand.NewSource(169))
	for range 3000 {
		plain := anyList(r)
		for i := range plain {
			plain[i].Instrs = []flow.Instr{{At: uint16(i), Op: 1, Word: 5461}, {Op: 8}}
		}
		ws := roomy(plain)
		before := whole(ws)
		one, v := flow.Order(ws)
		two, _ := flow.Order(ws)
		if !reflect.DeepEqual(whole(ws), before) {
			t.Fatalf("%v: the list has changed", plain)
		}
		want, u := flow.Order(plain)
		if v != u || !slices.Equal(one, want) {
			t.Fatalf("%v: %v, %v; with room behind the lists: %v, %v", plain, want, u, one, v)
		}
		spare.Over(one, 99)
		if !slices.Equal(two, want) || !reflect.DeepEqual(whole(ws), before) {
			t.Fatalf("%v: with one answer written over the other is %v, want %v", plain, two, want)
		}
		for i := range ws {
			spare.Over(ws[i].Calls, 99)
		}
		spare.Over(ws, w(99, 99))
		if three, _ := flow.Order(plain); !slices.Equal(two, want) || !slices.Equal(three, want) {
			t.Fatalf("%v: with the list written over: %v, %v, want %v", plain, two, three, want)
		}
	}
}
