package prim_test

import (
	"iter"
	"math"
	"slices"
	"strings"
	"testing"

	"wisp/api"
	"wisp/prim"
	"wisp/text"
)

// Errors by the document's numbers, not by api's names: a slip in one of the two must show.
const (
	fine   = api.Errno(0)
	noPrim = api.Errno(60)
	noNum  = api.Errno(20)
)

// line is a line of DOC.md's table of the primitives.
type line struct {
	op     int
	name   string
	effect string
	cost   int
}

// lines are those of DOC.md's table, as they stand there; line n is that of the number n + 1.
var lines = [63]line{
	{1, "enter", "--", 2},
	{2, "const", "-- x", 2},
	{3, "lit", "-- x", 2},
	{4, "branch", "--", 2},
	{5, "zbranch", "x --", 2},
	{6, "do", "n m --", 3},
	{7, "loop", "--", 3},
	{8, "exit", "--", 2},
	{9, "nop", "--", 1},
	{10, "yield", "--", 1},
	{11, "halt", "--", 1},
	{12, "dup", "x -- x x", 1},
	{13, "drop", "x --", 1},
	{14, "swap", "x y -- y x", 1},
	{15, "over", "x y -- x y x", 1},
	{16, "rot", "x y z -- y z x", 1},
	{17, "nip", "x y -- y", 1},
	{18, "tuck", "x y -- y x y", 1},
	{19, "2dup", "x y -- x y x y", 2},
	{20, "2drop", "x y --", 1},
	{21, "+", "x y -- z", 1},
	{22, "-", "x y -- z", 1},
	{23, "*", "x y -- z", 3},
	{24, "/", "x y -- z", 4},
	{25, "mod", "x y -- z", 4},
	{26, "u/", "x y -- z", 4},
	{27, "umod", "x y -- z", 4},
	{28, "negate", "x -- z", 1},
	{29, "abs", "x -- z", 1},
	{30, "min", "x y -- z", 1},
	{31, "max", "x y -- z", 1},
	{32, "1+", "x -- z", 1},
	{33, "1-", "x -- z", 1},
	{34, "2*", "x -- z", 1},
	{35, "2/", "x -- z", 1},
	{36, "and", "x y -- z", 1},
	{37, "or", "x y -- z", 1},
	{38, "xor", "x y -- z", 1},
	{39, "invert", "x -- z", 1},
	{40, "lshift", "x n -- z", 1},
	{41, "rshift", "x n -- z", 1},
	{42, "=", "x y -- f", 1},
	{43, "<>", "x y -- f", 1},
	{44, "<", "x y -- f", 1},
	{45, ">", "x y -- f", 1},
	{46, "u<", "x y -- f", 1},
	{47, "u>", "x y -- f", 1},
	{48, "0=", "x -- f", 1},
	{49, "0<", "x -- f", 1},
	{50, "@", "a -- x", 2},
	{51, "!", "x a --", 2},
	{52, "c@", "a -- x", 2},
	{53, "c!", "x a --", 2},
	{54, "+!", "x a --", 3},
	{55, ">r", "x --", 1},
	{56, "r>", "-- x", 1},
	{57, "r@", "-- x", 1},
	{58, "i", "-- x", 1},
	{59, "j", "-- x", 1},
	{60, "plot", "x y c --", 3},
	{61, "pad", "-- x", 1},
	{62, "tone", "p v --", 2},
	{63, "bank", "n --", 1},
}

// sides tells the names that an effect has on its left and on its right.
func (l line) sides() (left, right []string) {
	before, after, _ := strings.Cut(l.effect, "--")
	return strings.Fields(before), strings.Fields(after)
}

// row is the line as chapter 6 has it: 1 to 8 have no name, an operand have just 3, 4, 5 and 7.
func (l line) row() api.Prim {
	left, right := l.sides()
	p := api.Prim{Op: l.op, Name: l.name, In: len(left), Out: len(right), Cost: l.cost}
	if l.op <= 8 {
		p.Name = ""
	}
	p.Operand = slices.Contains([]int{3, 4, 5, 7}, l.op)
	return p
}

// allRows are the rows of all 63.
func allRows() []api.Prim {
	var all []api.Prim
	for _, l := range lines {
		all = append(all, l.row())
	}
	return all
}

// plainOps are the numbers of 6.4.
func plainOps() []int {
	all := []int{6, 9}
	for op := 12; op <= 63; op++ {
		all = append(all, op)
	}
	return all
}

// strangers are numbers of no primitive; of some the low bits are those of one.
func strangers() []int {
	return []int{0, 64, 65, 66, 99, 127, 128, 255, 256, 256 + 12, 65536, 65536 + 12, 1 << 32, 1<<32 + 12, math.MaxInt, math.MaxInt - 1,
		-1, -2, -12, -52, -63, -64, -244, -65524, math.MinInt, math.MinInt + 1, math.MinInt + 12}
}

func wantNoRow(t *testing.T, op int) {
	t.Helper()
	if p, e := prim.Of(op); p != (api.Prim{}) || e != noPrim {
		t.Errorf("Of(%d) = %+v, %d, want the zero Prim, %d", op, p, e, noPrim)
	}
}

func wantRow(t *testing.T, op int, want api.Prim) {
	t.Helper()
	if p, e := prim.Of(op); p != want || e != fine {
		t.Errorf("Of(%d) = %+v, %d, want %+v, 0", op, p, e, want)
	}
}

func wantNamed(t *testing.T, name string, want api.Prim) {
	t.Helper()
	if p, is := prim.Named(name); p != want || !is {
		t.Errorf("Named(%q) = %+v, %v, want %+v, true", name, p, is, want)
	}
}

func wantNobody(t *testing.T, name string) {
	t.Helper()
	if p, is := prim.Named(name); p != (api.Prim{}) || is {
		t.Errorf("Named(%q) = %+v, %v, want the zero Prim, false", name, p, is)
	}
}

func TestExample1(t *testing.T) { // 6.1, 6.2
	wantRow(t, 24, api.Prim{Op: 24, Name: "/", In: 2, Out: 1, Cost: 4})
	wantRow(t, 3, api.Prim{Op: 3, In: 0, Out: 1, Cost: 2, Operand: true})
	wantRow(t, 7, api.Prim{Op: 7, Cost: 3, Operand: true})
	wantNoRow(t, 0)
	wantNoRow(t, 64)
	wantNamed(t, "2dup", api.Prim{Op: 19, Name: "2dup", In: 2, Out: 4, Cost: 2})
	for _, name := range []string{"lit", "exit", "do"} {
		wantNobody(t, name)
	}
}

func TestLines(t *testing.T) { // the table of the tests is by the numbers rising
	for n, l := range lines {
		if l.op != n+1 {
			t.Fatalf("line %d has the number %d", n, l.op)
		}
	}
}

func TestOf(t *testing.T) { // 6.1
	for _, l := range lines {
		wantRow(t, l.op, l.row())
	}
	for _, op := range strangers() {
		wantNoRow(t, op)
	}
	for op := 64; op < 2000; op++ {
		wantNoRow(t, op)
		wantNoRow(t, 63-op)
	}
}

func TestOfByApiNames(t *testing.T) { // 6.1: the names in api, in the table's order, are its numbers
	ops := []int{api.OpEnter, api.OpConst, api.OpLit, api.OpBranch, api.OpZBranch, api.OpDo, api.OpLoop, api.OpExit, api.OpNop, api.OpYield, api.OpHalt, api.OpDup, api.OpDrop, api.OpSwap, api.OpOver, api.OpRot, api.OpNip, api.OpTuck, api.OpDup2, api.OpDrop2, api.OpAdd, api.OpSub, api.OpMul, api.OpDiv, api.OpMod, api.OpUDiv, api.OpUMod, api.OpNegate, api.OpAbs, api.OpMin, api.OpMax, api.OpInc, api.OpDec, api.OpTwice, api.OpHalf, api.OpAnd, api.OpOr, api.OpXor, api.OpInvert, api.OpLShift, api.OpRShift, api.OpEq, api.OpNe, api.OpLt, api.OpGt, api.OpULt, api.OpUGt, api.OpZero, api.OpNeg, api.OpFetch, api.OpStore, api.OpCFetch, api.OpCStore, api.OpPlus, api.OpToR, api.OpFromR, api.OpRFetch, api.OpI, api.OpJ, api.OpPlot, api.OpPad, api.OpTone, api.OpBank}
	if len(ops) != 63 || api.Ops != 64 {
		t.Fatalf("%d names, Ops is %d", len(ops), api.Ops)
	}
	for n, op := range ops {
		wantRow(t, op, lines[n].row())
	}
}

func TestCosts(t *testing.T) { // 6.1: none above api.MaxCost, and one that is just it; none below 1
	greatest := 0
	for p := range prim.All() {
		greatest = max(greatest, p.Cost)
		if p.Cost < 1 {
			t.Errorf("%d costs %d", p.Op, p.Cost)
		}
	}
	if greatest != 4 || api.MaxCost != 4 {
		t.Errorf("the greatest cost is %d, MaxCost %d", greatest, api.MaxCost)
	}
}

func TestNamed(t *testing.T) { // 6.2
	for _, l := range lines {
		if l.op <= 8 {
			wantNobody(t, l.name)
		} else {
			wantNamed(t, l.name, l.row())
		}
	}
}

func TestNamedOfOtherTexts(t *testing.T) { // 6.2: one byte more, one less, other letters; words of a source that are no primitives
	known := map[string]int{}
	for _, l := range lines[8:] {
		known[l.name] = l.op
	}
	var texts []string
	for _, l := range lines {
		n := l.name
		texts = append(texts, n+" ", " "+n, n+n, n+"\x00", "\x00"+n, n[1:], n[:len(n)-1], strings.ToUpper(n), strings.ToUpper(n[:1])+n[1:], n+"\n", n+"é")
	}
	texts = append(texts, "", " ", "0", "1", "12", "-1", "$80", "%1", ":", ";", "if", "else", "then", "begin", "until", "while", "repeat", "again", "leave", "constant", "variable", "buffer", "main", "zbranch", "0>", "2swap", "r", "\xff", "\x00", "dup drop", strings.Repeat("dup", 30000))
	asked := 0
	for _, s := range texts {
		if known[s] == 0 {
			asked++
			wantNobody(t, s)
		}
	}
	if asked < 500 {
		t.Errorf("%d texts", asked)
	}
}

func TestAllIsWhole(t *testing.T) { // 6.3
	if got := slices.Collect(prim.All()); !slices.Equal(got, allRows()) {
		t.Errorf("All() gives %+v", got)
	}
}

func TestAllEnds(t *testing.T) { // 6.3: behind each count of rows it asks no more, whether it is ranged over or called
	want := allRows()
	for many := 1; many <= 64; many++ {
		var got []api.Prim
		for p := range prim.All() {
			got = append(got, p)
			if len(got) == many {
				break
			}
		}
		if !slices.Equal(got, want[:min(many, 63)]) {
			t.Errorf("%d rows taken: %+v", many, got)
		}
		got = nil
		prim.All()(func(p api.Prim) bool {
			got = append(got, p)
			return len(got) < many
		})
		if !slices.Equal(got, want[:min(many, 63)]) {
			t.Errorf("%d rows asked for: %+v", many, got)
		}
	}
}

func TestAllBeginsAnew(t *testing.T) { // 6.3: one answer ranged over twice, broken off between, and within itself
	all := prim.All()
	for range all {
		break
	}
	for range 2 {
		if got := slices.Collect(all); !slices.Equal(got, allRows()) {
			t.Errorf("ranged over again: %+v", got)
		}
	}
	rounds := 0
	for p := range all {
		inner := 0
		for q := range all {
			inner++
			if q != lines[inner-1].row() {
				t.Fatalf("within the row %d: row %d is %+v", p.Op, inner, q)
			}
			if q.Op == p.Op {
				break
			}
		}
		rounds++
		if p.Op != rounds || inner != rounds {
			t.Fatalf("row %d of the outer one: %+v, %d inner rows", rounds, p, inner)
		}
	}
	if rounds != 63 {
		t.Errorf("%d rows of the outer one", rounds)
	}
}

func TestAllSideBySide(t *testing.T) { // 6.3: two that take turns do not see each other
	all := prim.All()
	one, stopOne := iter.Pull(all)
	two, stopTwo := iter.Pull(all)
	defer stopOne()
	defer stopTwo()
	one()
	for n := 0; n < 62; n++ {
		p, okP := one()
		q, okQ := two()
		if !okP || !okQ || p != lines[n+1].row() || q != lines[n].row() {
			t.Fatalf("turn %d: %+v %v, %+v %v", n, p, okP, q, okQ)
		}
	}
}

func TestPlain(t *testing.T) { // 6.4
	plain := plainOps()
	for op := -70; op <= 2000; op++ {
		if got, want := prim.Plain(op), slices.Contains(plain, op); got != want {
			t.Errorf("Plain(%d) = %v", op, got)
		}
	}
	for _, op := range strangers() {
		if prim.Plain(op) {
			t.Errorf("Plain(%d)", op)
		}
	}
	for _, op := range []int{1, 2, 3, 4, 5, 7, 8, 10, 11} {
		if prim.Plain(op) {
			t.Errorf("Plain(%d)", op)
		}
	}
	if len(plain) != 54 {
		t.Errorf("%d are plain", len(plain))
	}
}

func TestNames(t *testing.T) { // 6.7
	seen := map[string]int{}
	for p := range prim.All() {
		if q, e := prim.Of(p.Op); q != p || e != fine {
			t.Errorf("Of(%d) = %+v, %d, All gives %+v", p.Op, q, e, p)
		}
		if (p.Name == "") != (p.Op <= 8) {
			t.Errorf("%d has the name %q", p.Op, p.Name)
		}
		if p.Name == "" {
			continue
		}
		if seen[p.Name] != 0 {
			t.Errorf("%q is the name of %d and of %d", p.Name, seen[p.Name], p.Op)
		}
		seen[p.Name] = p.Op
		wantNamed(t, p.Name, p)
		if x, e := text.Numeral(p.Name); x != 0 || e != noNum {
			t.Errorf("%q is a numeral: %d, %d", p.Name, x, e)
		}
	}
	if len(seen) != 55 {
		t.Errorf("%d names", len(seen))
	}
}
