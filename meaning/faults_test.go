package meaning_test

import (
	"fmt"
	"reflect"
	"slices"
	"strconv"
	"strings"
	"testing"

	"wisp/api"
	"wisp/prim"
	"wisp/sources"
)

func times(many int, s string) string { return strings.Repeat(s+" ", many) }

// thing is a piece of a source whose first instruction is asked for: the cells that it takes and leaves, its cost.
type thing struct {
	src           string
	in, out, cost int
}

// things are the primitives, and the nodes that are none.
func things() []thing {
	list := []thing{
		{"5", 0, 1, 2}, {"k", 0, 1, 2}, {"v", 0, 1, 2}, {"b", 0, 1, 2}, {"w", 0, 0, 2}, {"exit", 0, 0, 2},
		{"if then", 1, 0, 2}, {"if else then", 1, 0, 2}, {"begin until", 1, 0, 2}, {"begin while repeat", 1, 0, 2}, {"begin again", 0, 0, 2}, {"do loop", 2, 0, 3},
	}
	for _, name := range strings.Fields(sources.Primitives) {
		p, _ := prim.Named(name)
		list = append(list, thing{name, p.In, p.Out, p.Cost})
	}
	return list
}

// returns are return stacks by their cells' kinds, the top on the right: Call, Limit and Index, Saved.
func returns() []string {
	s := func(many int) string { return strings.Repeat("S", many) }
	return []string{
		"", "S", "SS", "SSS", "LI", "LIS", "LISS", "LILI", "C", "CS", "CSS", "SC", "LIC", "LICS", "LILIC", "CLI",
		s(126), s(127), s(128), s(126) + "LI", s(124) + "LIS", s(124) + "LISS", s(127) + "C", s(125) + "CSS",
	}
}

// staged is a source that comes to a piece with so many cells on the data stack and that return stack; it tells where the piece stands, and what is spent ahead of it.
func staged(kinds string, height int, piece string) (src string, col, spent int) {
	words := strings.Split(kinds, "C")
	spent = 4 + 2*(len(words)-1) + 3*strings.Count(kinds, "S") + 7*strings.Count(kinds, "L") + 2*height
	inner := times(height, "3") + "@" + piece
	for i := len(words) - 1; i >= 0; i-- {
		name, ahead := "x"+strconv.Itoa(i), ""
		if i == 0 {
			name, ahead = "main", "nop nop nop nop "
		}
		ahead += strings.NewReplacer("S", "7 >r ", "LI", "9 5 do ").Replace(words[i])
		src += ": " + name + " " + ahead + inner + " " + times(strings.Count(words[i], "L"), "loop") + "; "
		inner = name
	}
	src = "7 constant k variable v 9 buffer b : w ; " + src
	col = strings.Index(src, "@"+piece) + 1
	return src[:col-1] + src[col:], col, spent
}

// failing tells the fault of a piece, by DOC.md's order.
func (x thing) failing(height int, kinds string) api.Fault {
	if height < x.in {
		return under
	}
	if height-x.in+x.out > 256 {
		return over
	}
	looked := map[string]int{"r>": 1, "r@": 1, "i": 1, "j": 3, "exit": 1}[x.src]
	kind := map[string]string{"r>": "S", "r@": "S", "i": "I", "j": "I", "exit": "C"}[x.src]
	n := len(kinds)
	if x.src == "exit" && n == 0 {
		return none
	}
	if looked > n {
		return rUnder
	}
	if looked > 0 && kinds[n-looked:n-looked+1] != kind {
		return other
	}
	if n+map[string]int{">r": 1, "w": 1, "do loop": 2}[x.src] > 128 {
		return rOver
	}
	return none
}

func TestEachFault(t *testing.T) { // 15.2: in DOC.md's order, at both ends of both stacks; what faults has changed nothing
	for _, kinds := range returns() {
		t.Run(strconv.Itoa(len(kinds))+kinds[max(0, len(kinds)-5):], func(t *testing.T) {
			t.Parallel()
			for _, x := range things() {
				if x.src == "exit" && strings.Contains(kinds[strings.LastIndex(kinds, "C")+1:], "L") {
					continue // no program has an exit inside a do of its word (ErrLeave)
				}
				heights := []int{0, 1, 2, 3, 254, 255, 256}
				if kinds != "" {
					heights = []int{0, 1, 3, 256}
				}
				for _, height := range heights {
					wantFailing(t, kinds, height, x)
				}
			}
		})
	}
}

// wantFailing lets a program come to a piece, looks at it there, and plays on.
func wantFailing(t *testing.T, kinds string, height int, piece thing) {
	t.Helper()
	src, col, spent := staged(kinds, height, piece.src)
	x := pairOf(t, src, taken(t, src))
	if o := x.frame(t, 5, spent); o.Spent != spent || o.Status != running {
		t.Fatalf("the tests' own %s: spent %d, want %d; fault %d", src, o.Spent, spent, o.Fault)
	}
	wantNext(t, x.meant, col, piece.cost)
	data, depth, image := x.meant.Data(), x.meant.Depth(), x.meant.Memory().Image()
	if len(data) != height || depth != len(kinds) {
		t.Fatalf("the tests' own %s: %d and %d cells", src, len(data), depth)
	}
	want := piece.failing(height, kinds)
	o := x.frame(t, 5, 4)
	if (want == none) != (o.Steps > 0) || want != none && (o.Status != faulted || o.Fault != want || o.Spent != 0) {
		t.Fatalf("%s: status %d, fault %d, steps %d; want fault %d", src, o.Status, o.Fault, o.Steps, want)
	}
	if want == none {
		return
	}
	image.Time++ // a frame has begun, and no more
	if !slices.Equal(x.meant.Data(), data) || x.meant.Depth() != depth || !reflect.DeepEqual(x.meant.Memory().Image(), image) {
		t.Fatalf("%s: fault %d has changed something", src, want)
	}
	if o := x.frame(t, 5, 100); o.Status != faulted || o.Fault != want || o.Steps != 0 || o.Idle != 100 {
		t.Fatalf("%s: behind the fault: status %d, fault %d, steps %d", src, o.Status, o.Fault, o.Steps)
	}
}

func TestFaultsOfLoop(t *testing.T) { // 15.2: the top must be an Index; then its Limit lies below (no other program may be)
	for _, c := range []struct {
		body  string
		fault api.Fault
		depth int
	}{
		{"3 0 do 1 >r loop", other, 3},
		{"3 0 do 2 0 do 1 >r loop loop", other, 5},
		{"3 0 do loop", none, 0},
		{"1 >r 3 0 do loop r> drop", none, 0},
		{"3 0 do i >r r> drop loop", none, 0},
	} {
		x := pairOf(t, c.body, taken(t, ": main "+c.body+" ;"))
		if o := x.frame(t, 0, 1000); o.Fault != c.fault || x.meant.Depth() != c.depth {
			t.Errorf("%s: fault %d, depth %d", c.body, o.Fault, x.meant.Depth())
		}
	}
}

func TestLoopCounts(t *testing.T) { // 15.2: up to the Limit, by sixteen bits; at least one turn
	for _, c := range []struct{ limit, from, turns int }{{1, 0, 1}, {5, 0, 5}, {0, 65535, 1}, {2, 65534, 4}, {32769, 32766, 3}, {0, 1, 65535}, {7, 7, 65536}, {0, 0, 65536}} {
		m := made(t, fmt.Sprintf("variable v variable u : main %d %d do 1 v +! v @ 0= u +! loop ;", c.limit, c.from))
		for range 200 {
			m.Frame(0, 16384)
		}
		wantNoNext(t, m)
		wantStacks(t, m, 0)
		if got := int(m.Memory().Cell(0x8000)) + 65536*int(-m.Memory().Cell(0x8002)); got != c.turns {
			t.Errorf("from %d to %d: %d turns, want %d", c.from, c.limit, got, c.turns)
		}
	}
}

func TestExit(t *testing.T) { // 15.2: without a cell, above a Call, above a Saved; a word's own one too
	framed(t, made(t, ": main exit 1 ;"), 100, halted, none, 1, 2)
	framed(t, made(t, ": main ;"), 100, halted, none, 1, 2)
	framed(t, made(t, ": main 1 if exit then drop ;"), 100, halted, none, 3, 6)
	framed(t, made(t, ": main begin exit again ;"), 100, halted, none, 1, 2)
	m := made(t, ": w 1 exit 2 ; : main w 3 ;")
	framed(t, m, 100, halted, none, 5, 10)
	wantStacks(t, m, 0, 1, 3)
	m = made(t, ": w begin 1 begin exit again 2 until ; : main w 3 w ;")
	framed(t, m, 100, halted, none, 8, 16)
	wantStacks(t, m, 0, 1, 3, 1)
	m = made(t, ": w 1 >r exit ; : main w ;")
	framed(t, m, 100, faulted, other, 3, 5)
	wantStacks(t, m, 2)
	m = made(t, ": v 1 >r ; : w v 2 ; : main w ;") // above its own Call, and two words' below
	framed(t, m, 100, faulted, other, 4, 7)
	wantStacks(t, m, 3)
	m = made(t, ": v r> ; : w 1 >r v ; : main w ;") // what the caller has saved lies below the Call
	framed(t, m, 100, faulted, other, 4, 7)
	wantStacks(t, m, 3)
	m = made(t, ": w 5 ; : main 3 0 do w drop loop ;") // the Index below the Call is as it was
	framed(t, m, 100, halted, none, 3+3*5+1, 7+3*(2+2+2+1+3)+2)
}

// chained is a source of so many words, each of which calls the one ahead of it, with its number ahead of the call and behind it in the memory; main saves so many cells and calls the last one.
func chained(words, saved int) string {
	var b strings.Builder
	b.WriteString("variable v : w1 1 v +! ; ")
	for i := 2; i <= words; i++ {
		fmt.Fprintf(&b, ": w%d %d v +! w%d v @ %d xor v ! ; ", i, i, i-1, i)
	}
	fmt.Fprintf(&b, ": main %s w%d %s;", times(saved, "1 >r"), words, times(saved, "r> drop"))
	return b.String()
}

func TestWordsInOneAnother(t *testing.T) { // 15.2: until the return stack is full, and by one more; each goes on where it was called
	for _, c := range []struct{ words, saved int }{{1, 0}, {2, 0}, {127, 0}, {128, 0}, {100, 28}, {1, 127}, {64, 63}} {
		src := chained(c.words, c.saved)
		x := pairOf(t, src, taken(t, src))
		o := x.frame(t, 0, 16384)
		want := 1
		for i := 2; i <= c.words; i++ {
			want += i
		}
		for i := 2; i <= c.words; i++ {
			want ^= i
		}
		if got := int(x.meant.Memory().Cell(0x8000)); o.Status != halted || o.Fault != none || got != want {
			t.Errorf("%d words, %d cells: status %d, fault %d, %d, want %d", c.words, c.saved, o.Status, o.Fault, got, want)
		}
	}
	for _, c := range []struct{ words, saved int }{{129, 0}, {130, 0}, {200, 0}, {101, 28}, {1, 128}, {90, 100}} {
		src := chained(c.words, c.saved)
		x := pairOf(t, src, taken(t, src))
		o := x.frame(t, 0, 16384)
		if calls := 128 - c.saved; o.Status != faulted || o.Fault != rOver || x.meant.Depth() != 128 || o.Spent != 3*c.saved+calls*2+calls*7 {
			t.Errorf("%d words, %d cells: status %d, fault %d, depth %d, spent %d", c.words, c.saved, o.Status, o.Fault, x.meant.Depth(), o.Spent)
		}
	}
}
