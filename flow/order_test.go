package flow_test

import (
	"math/rand"
	"slices"
	"testing"

	"wisp/api"
	"wisp/flow"
)

// w is a word as Order sees it.
func w(at uint16, calls ...uint16) flow.Word { return flow.Word{At: at, Calls: calls} }

func list(ws ...flow.Word) []flow.Word { return ws }

func wantOrder(t *testing.T, ws []flow.Word, want ...uint16) {
	t.Helper()
	if got, v := flow.Order(ws); v != (api.Verdict{}) || !slices.Equal(got, want) {
		t.Errorf("P16.5: Order(%v) = %v, %v, want %v", ws, got, v, want)
	}
}

func wantNoOrder(t *testing.T, at uint16, ws ...flow.Word) {
	t.Helper()
	if got, v := flow.Order(ws); v != (api.Verdict{Err: badCall, At: at}) || len(got) != 0 {
		t.Errorf("P16.5: Order(%v) = %v, %v, want ErrCall at %d", ws, got, v, at)
	}
}

func TestOrder(t *testing.T) { // P16.5: of those whose calls have been told, the one with the least At
	wantOrder(t, nil)
	wantOrder(t, list())
	wantOrder(t, list(w(0)), 0)
	wantOrder(t, list(w(65535), w(0), w(7)), 0, 7, 65535)
	wantOrder(t, list(w(5, 9), w(9, 7), w(7)), 7, 9, 5)
	wantOrder(t, list(w(7), w(9, 7), w(5, 9)), 7, 9, 5)
	// 3 is free as soon as 8 has been told, and comes ahead of 9.
	wantOrder(t, list(w(9), w(8), w(3, 8), w(1, 9)), 8, 3, 9, 1)
	wantOrder(t, list(w(2, 4, 6), w(4), w(6), w(1, 6)), 4, 6, 1, 2)
	// A call more than once, and calls that do not rise.
	wantOrder(t, list(w(8, 2, 2, 2), w(2)), 2, 8)
	wantOrder(t, list(w(8, 6, 2, 6, 4), w(6, 4, 2, 4), w(4, 2), w(2)), 2, 4, 6, 8)
}

func TestOrderAsksOfCallsAlone(t *testing.T) { // P16.5: whatever the instructions are; the Ats need not be addresses of cells
	ws := list(flow.Word{At: 3, Instrs: []flow.Instr{{At: 5, Op: 1, Word: 3}, {At: 5, Op: 99}}}, flow.Word{At: 1, Instrs: []flow.Instr{{Op: 1, Word: 77}}, Calls: ats(3)})
	wantOrder(t, ws, 3, 1)
}

func TestOrderWithoutAnEnd(t *testing.T) { // P16.5: ErrCall at the least At that is left
	wantNoOrder(t, 5, w(5, 5))
	wantNoOrder(t, 5, w(4), w(5, 5), w(6))
	wantNoOrder(t, 5, w(9, 9), w(5, 5), w(7, 7))
	wantNoOrder(t, 8, w(8, 1))
	wantNoOrder(t, 0, w(0, 65535))
	wantNoOrder(t, 8, w(8, 9), w(9, 8))
	wantNoOrder(t, 4, w(8, 6), w(6, 4), w(4, 8), w(2), w(9))
	// Those that call what is left are left too: the least of all is the verdict's, in no ring itself.
	wantNoOrder(t, 3, w(8, 9), w(9, 8), w(3, 8))
	wantNoOrder(t, 1, w(1, 3), w(8, 77), w(3, 8))
	// Those that could be told were told, even where they lie ahead of it.
	wantNoOrder(t, 6, w(1), w(2, 1), w(6, 2, 6), w(7, 2))
	wantNoOrder(t, 4, w(2, 8), w(8), w(4, 5, 2), w(5, 4), w(3, 2))
}

func TestOrderOfTwoWithOneAt(t *testing.T) { // P16.5: the second is left, whichever stands ahead, whatever the two call
	wantNoOrder(t, 8, w(8), w(8))
	wantNoOrder(t, 8, w(8), w(8), w(8), w(9))
	wantNoOrder(t, 0, w(0), w(0))
	for _, calls := range [][]uint16{nil, {2}, {9}, {8}, {77}, {2, 9}, {2, 77}} {
		wantNoOrder(t, 8, w(8), w(8, calls...), w(2), w(9))
		wantNoOrder(t, 8, w(8, calls...), w(8), w(2), w(9))
		wantNoOrder(t, 8, w(2), w(8, calls...), w(9), w(8))
	}
	// One of the two has been told, so that those which call it are told.
	wantNoOrder(t, 8, w(2, 8), w(8), w(8, 77))
	wantNoOrder(t, 8, w(2, 8), w(8, 77), w(8))
	wantNoOrder(t, 8, w(2, 8), w(8, 9), w(8, 77), w(9))
	// None has: they are left.
	wantNoOrder(t, 2, w(2, 8), w(8, 77), w(8, 8))
	// The second is left though it calls what is told only behind the first.
	wantNoOrder(t, 8, w(8), w(8, 9), w(9, 8))
	wantNoOrder(t, 6, w(8), w(8), w(6, 6))
	wantNoOrder(t, 6, w(8), w(6, 8), w(6))
}

// anyList has words of few Ats, so that they call one another often; most of them, but not all, call those that are made ahead of them.
func anyList(r *rand.Rand) []flow.Word {
	many := 1 + r.Intn(12)
	turned := r.Perm(many + 1) // so that the Ats do not rise as they are made; the last one is no word's
	at := func(i int) uint16 { return uint16(turned[i] * 5041) }
	var ws []flow.Word
	for i := range many {
		x := w(at(i))
		for range r.Intn(4) {
			switch {
			case r.Intn(25) == 0:
				x.Calls = append(x.Calls, at(r.Intn(many+1)))
			case i > 0:
				x.Calls = append(x.Calls, at(r.Intn(i)))
			}
		}
		ws = append(ws, x)
		if r.Intn(40) == 0 {
			ws = append(ws, w(x.At, at(r.Intn(many))))
		}
	}
	r.Shuffle(len(ws), func(i, j int) { ws[i], ws[j] = ws[j], ws[i] })
	return ws
}

func TestOrderAgainstTheModel(t *testing.T) { // P16.5
	r := rand.New(rand.NewSource(165))
	met := map[api.Errno]int{}
	for range 20000 {
		ws := anyList(r)
		want, v := ordered(ws)
		got, u := flow.Order(ws)
		if u != v || !slices.Equal(got, want) {
			t.Fatalf("Order(%v) = %v, %v, want %v, %v", ws, got, u, want, v)
		}
		met[v.Err]++
	}
	if met[fine] < 5000 || met[badCall] < 5000 {
		t.Errorf("%v: the lists are too much alike", met)
	}
}

func TestOrderOfManyWords(t *testing.T) { // R1: it ends, in a time that the list's length bears
	const many = 65536
	chain, free, fan := make([]flow.Word, many), make([]flow.Word, many), make([]flow.Word, many)
	var want, rising []uint16
	for i := range many {
		at := uint16(i)
		chain[i], free[many-1-i], fan[i] = w(at, at+1), w(at), w(at, 65535, 65535)
		want, rising = append(want, 65535-at), append(rising, at)
	}
	chain[many-1].Calls, fan[many-1].Calls = nil, nil
	wantLong(t, chain, want)
	wantLong(t, free, rising)
	wantLong(t, fan, append(ats(65535), rising[:many-1]...))
	wantNoOrder(t, 65535, append(chain, chain[many-1])...)
	for i := range many {
		fan[i].Calls = ats(65535)
	}
	wantNoOrder(t, 0, fan...)
	all := slices.Repeat(list(w(7, 7)), 300000)
	wantNoOrder(t, 7, append(all, w(65535))...)
	wantNoOrder(t, 9, w(9, slices.Repeat(ats(8), 300000)...), w(8), w(9))
}

func wantLong(t *testing.T, ws []flow.Word, want []uint16) {
	t.Helper()
	if got, v := flow.Order(ws); v != (api.Verdict{}) || !slices.Equal(got, want) {
		t.Errorf("Order of %d words: %d of them, %v", len(ws), len(got), v)
	}
}
