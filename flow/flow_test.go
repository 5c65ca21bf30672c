package flow_test

import (
	"fmt"
	"slices"
	"testing"

	"wisp/api"
	"wisp/carts"
	"wisp/flow"
)

// wantWords asks that these are all words.
func wantWords(t *testing.T, what string, c api.Cart, want ...flow.Word) {
	t.Helper()
	if ws, v := flow.Words(c); v != (api.Verdict{}) || !alike(ws, want) {
		t.Errorf("%s: Words = %v, %v, want %v", what, ws, v, want)
	}
}

// wantFault asks for a verdict, and for no words beside it.
func wantFault(t *testing.T, what string, c api.Cart, e api.Errno, at int) {
	t.Helper()
	if ws, v := flow.Words(c); v != (api.Verdict{Err: e, At: uint16(at)}) || len(ws) != 0 {
		t.Errorf("%s: Words = %v, %v, want the verdict {%d %d}", what, ws, v, e, at)
	}
}

// wantAts asks that there is no fault, and where the instructions of the words lie, word by word.
func wantAts(t *testing.T, what string, c api.Cart, want ...[]uint16) {
	t.Helper()
	ws, v := flow.Words(c)
	if v != (api.Verdict{}) || !slices.EqualFunc(ws, want, func(w flow.Word, ats []uint16) bool { return slices.Equal(atsOf(w), ats) }) {
		t.Errorf("%s: Words = %v, %v, want instructions at %v", what, ws, v, want)
	}
}

func atsOf(w flow.Word) []uint16 {
	var ats []uint16
	for _, x := range w.Instrs {
		ats = append(ats, x.At)
	}
	return ats
}

func ats(list ...uint16) []uint16 { return list }

// at128 is the cartridge of the examples with the entry 128.
func at128(cells ...uint16) api.Cart { return carts.Of(128, cells...) }

func exitAt(at uint16) flow.Instr { return flow.Instr{At: at, Op: 8, Next: at + 2} }

func TestExamples(t *testing.T) {
	// 1
	wantWords(t, "example 1", at128(1, 16), flow.Word{At: 128, Instrs: []flow.Instr{{130, 8, 0, 0, 132}}})
	// 2
	itself := at128(1, 6, 7, 128, 16)
	wantWords(t, "example 2", itself, flow.Word{At: 128, Instrs: []flow.Instr{{130, 3, 7, 0, 134}, {134, 1, 0, 128, 136}, exitAt(136)}, Calls: ats(128)})
	ws, _ := flow.Words(itself)
	if order, v := flow.Order(ws); len(order) != 0 || v != (api.Verdict{Err: badCall, At: 128}) {
		t.Errorf("example 2: Order = %v, %v", order, v)
	}
	// 3
	wantFault(t, "example 3: a branch to 131", at128(1, 8, 131), badTarget, 130)
	wantFault(t, "example 3: a branch to its own operand", at128(1, 8, 132), badOpcode, 132)
	wantFault(t, "example 3: the code ends", at128(1, 42), badFall, 132)
	// 4
	wantWords(t, "example 4: zbranch", at128(1, 10, 134, 16), flow.Word{At: 128, Instrs: []flow.Instr{{130, 5, 134, 0, 134}, exitAt(134)}})
	wantFault(t, "example 4: an operand of another", at128(1, 6, 16, 8, 132), badTarget, 132)
	// 5
	wantFault(t, "example 5: a constant", at128(2, 9), badCall, 128)
	for _, entry := range []uint16{132, 129, 131, 60000} {
		wantFault(t, "example 5: an entry", carts.Of(entry, 1, 16), badCall, int(entry))
	}
}

func TestNoCartridge(t *testing.T) { // P16.4: cart.Check's error, at 0, whatever the code
	for what, c := range carts.Refused() {
		wantFault(t, what, c, badCart, 0)
		if len(c.Code) == 0 {
			c.Code, c.Entry = at128(1, 16).Code, 128
			wantFault(t, what+" beside a word", c, badCart, 0)
		}
	}
	odd := at128(1, 16)
	odd.Code = odd.Code[:131]
	wantFault(t, "a cell whose second byte is not there", odd, badCart, 0)
	odd.Entry = 130
	wantFault(t, "an entry whose second byte is not there", odd, badCart, 0)
}

func TestCartridgesThatJustMayBe(t *testing.T) { // P16.4: the others are not refused by cart.Check: nothing is a word there
	for what, c := range carts.JustTaken() {
		wantFault(t, what, c, badCall, int(c.Entry))
		c.Code, c.Entry = at128(1, 16).Code, 128
		wantAts(t, what+" beside a word", c, ats(130))
	}
}

func TestEntries(t *testing.T) { // P16.1, P16.2: in the code, and an enter
	code := at128(1, 16, 257, 16, 0, 1).Code // to 139
	for entry := range 65536 {
		c := api.Cart{Code: code, Entry: uint16(entry)}
		switch entry {
		case 128:
			wantAts(t, "the word", c, ats(130))
		case 2:
			wantFault(t, "the first cell that holds 1", c, badOpcode, 6)
		case 138:
			wantFault(t, "a code field in the last cell", c, badFall, 140)
		default:
			wantFault(t, "an entry", c, badCall, entry)
		}
	}
}

func TestNoCode(t *testing.T) { // P16.1, P16.2
	for _, entry := range []int{0, 1, 2, 65534, 65535} {
		wantFault(t, "no code", api.Cart{Entry: uint16(entry)}, badCall, entry)
	}
}

func TestAddressesBehindTheLast(t *testing.T) { // P16.1: what lies at 65534 and 65535 does not begin anew at 0 and 1
	code := carts.Code(1, 4, 8, 65534, 4) // at 0: a word that exits, at 4 the primitive
	wantAts(t, "the word at 0", api.Cart{Code: code}, ats(2))
	for _, entry := range []int{65533, 65534, 65535} {
		wantFault(t, "an entry whose first instruction would lie at 0", api.Cart{Code: code, Entry: uint16(entry)}, badCall, entry)
	}
	for _, x := range []uint16{65533, 65534, 65535} {
		wantFault(t, "such a thread", at128(1, x, 16), badOpcode, 130)
		for _, branch := range []uint16{8, 10, 14} {
			wantFault(t, "such a target", at128(1, branch, x, 16), badTarget, 130)
		}
		wantWords(t, "such a number", at128(1, 6, x, 16), flow.Word{At: 128, Instrs: []flow.Instr{{130, 3, x, 0, 134}, exitAt(134)}})
		wantWords(t, "such a constant", at128(1, 134, 16, 2, x), flow.Word{At: 128, Instrs: []flow.Instr{{130, 2, x, 134, 132}, exitAt(132)}})
	}
}

func TestFullCode(t *testing.T) { // P16.1: up to the last byte that there may be
	code := func(cells ...uint16) []byte {
		full := make([]byte, 16384)
		copy(full, at128().Code)
		copy(full[16384-2*len(cells):], carts.Code(cells...))
		return full
	}
	wantAts(t, "an exit in the last cell", api.Cart{Code: code(1, 16), Entry: 16380}, ats(16382))
	wantFault(t, "a nop in the last cell", api.Cart{Code: code(1, 18), Entry: 16380}, badFall, 16384)
	wantFault(t, "a code field in the last cell", api.Cart{Code: code(1), Entry: 16382}, badFall, 16384)
	wantFault(t, "a lit in the last cell", api.Cart{Code: code(1, 6), Entry: 16380}, badFall, 16382)
	wantAts(t, "a target in the last cell", api.Cart{Code: code(1, 10, 16382, 16), Entry: 16376}, ats(16378, 16382))
	wantFault(t, "a target behind it", api.Cart{Code: code(1, 10, 16384, 16), Entry: 16376}, badTarget, 16378)
	wantAts(t, "an operand in the last cell", api.Cart{Code: code(1, 8, 16380), Entry: 16378}, ats(16380))
	wantAts(t, "a thread to the last cell", api.Cart{Code: code(1, 16382, 16, 9), Entry: 16376}, ats(16378, 16380))
	wantFault(t, "a thread behind it", api.Cart{Code: code(1, 16384, 16, 9), Entry: 16376}, badOpcode, 16378)
}

// operands are the primitives that have one.
var operands = []int{3, 4, 5, 7}

func TestEachPrimitive(t *testing.T) { // P16.3: its fields and its ways on
	for op := 2; op < 64; op++ {
		thread := uint16(2 * op)
		first := flow.Instr{At: 130, Op: op, Next: 132}
		want := flow.Word{At: 128, Instrs: []flow.Instr{first, exitAt(132)}}
		cells := []uint16{1, thread, 16}
		switch op {
		case 3, 4, 5, 7:
			cells = []uint16{1, thread, 136, 16, 16}
			first.Operand, first.Next = 136, 134
			want.Instrs = map[int][]flow.Instr{
				3: {first, exitAt(134)}, 4: {first, exitAt(136)}, 5: {first, exitAt(134), exitAt(136)}, 7: {first, exitAt(134), exitAt(136)},
			}[op]
		case 2:
			first.Operand, first.Word = 3, 4
			want.Instrs[0] = first
		case 8, 11:
			want.Instrs = []flow.Instr{first}
		}
		wantWords(t, fmt.Sprintf("the primitive %d", op), at128(cells...), want)
	}
	wantWords(t, "enter", at128(1, 134, 16, 1, 22),
		flow.Word{At: 128, Instrs: []flow.Instr{{130, 1, 0, 134, 132}, exitAt(132)}, Calls: ats(134)},
		flow.Word{At: 134, Instrs: []flow.Instr{{136, 11, 0, 0, 138}}})
}

func TestTheCodeEndsAheadOfTheInstruction(t *testing.T) { // P16.3: 1
	wantFault(t, "of the first", at128(1), badFall, 130)
	for op := 2; op < 64; op++ {
		switch op {
		case 3, 5, 7:
			wantFault(t, fmt.Sprintf("behind %d and its operand", op), at128(1, uint16(2*op), 130), badFall, 134)
		case 4:
			wantAts(t, "behind a branch, which does not lead there", at128(1, 8, 130), ats(130))
		case 8, 11:
			wantAts(t, "behind the last", at128(1, uint16(2*op)), ats(130))
		default:
			wantFault(t, fmt.Sprintf("behind %d", op), at128(1, uint16(2*op)), badFall, 132)
		}
	}
	wantFault(t, "behind a call of what never returns", carts.Of(132, 1, 22, 1, 128), badFall, 136)
}

func TestTheCodeEndsAheadOfAnOperand(t *testing.T) { // P16.3: 3
	for _, op := range operands {
		what := fmt.Sprintf("the primitive %d", op)
		wantFault(t, what, at128(1, uint16(2*op)), badFall, 130)
		wantFault(t, what+" behind another", at128(1, 18, uint16(2*op)), badFall, 132)
	}
	wantFault(t, "a constant", at128(1, 134, 16, 2), badFall, 130)
	wantFault(t, "a constant behind another", at128(1, 134, 138, 2, 16, 2), badFall, 132)
	// Such a cell has no operand behind it where nothing leads to it.
	wantAts(t, "behind exit", at128(1, 16, 6), ats(130))
}

func TestThreads(t *testing.T) { // P16.3: 2: in the code, and 1 to 63 there
	for thread := range 65536 {
		c := at128(1, uint16(thread), 16, 9, 0)
		switch {
		case thread%2 != 0 || thread >= 138 || thread == 0 || thread == 130 || thread == 136:
			wantFault(t, fmt.Sprintf("the thread %d", thread), c, badOpcode, 130)
		case thread == 134:
			wantWords(t, "a thread to a cell of its own", c, flow.Word{At: 128, Instrs: []flow.Instr{{130, 9, 0, 0, 132}, exitAt(132)}})
		case thread == 132:
			wantWords(t, "a thread to an instruction's cell", c, flow.Word{At: 128, Instrs: []flow.Instr{{130, 16, 0, 0, 132}, exitAt(132)}})
		}
	}
}

func TestCellsThatThreadsName(t *testing.T) { // P16.3: 2: the whole cell
	for x := range 65536 {
		// At 130 the thread to x, at 138; at 132 what is an operand, or else rot; then exits.
		c := at128(1, 138, 136, 16, 16, uint16(x), 16)
		what := fmt.Sprintf("a cell that holds %d", x)
		switch {
		case x == 1:
			wantAts(t, what, c, ats(130, 132, 134), ats(140))
		case x == 3:
			wantAts(t, what, c, ats(130, 134))
		case x == 4:
			wantAts(t, what, c, ats(130, 136))
		case x == 5 || x == 7:
			wantAts(t, what, c, ats(130, 134, 136))
		case x == 8 || x == 11:
			wantAts(t, what, c, ats(130))
		case x >= 1 && x <= 63:
			wantAts(t, what, c, ats(130, 132, 134))
		default:
			wantFault(t, what, c, badOpcode, 130)
		}
	}
}

func TestTargets(t *testing.T) { // P16.3: 4: cells in the code, and no others; of lit it is no target
	for _, op := range operands {
		for x := range 65536 {
			c := at128(1, uint16(2*op), uint16(x), 16, 16, 16) // to 139
			what := fmt.Sprintf("the primitive %d with the operand %d", op, x)
			switch {
			case op == 3:
				wantAts(t, what, c, ats(130, 134))
			case x%2 != 0 || x >= 140:
				wantFault(t, what, c, badTarget, 130)
			case x >= 134 && op == 4:
				wantAts(t, what, c, ats(130, uint16(x)))
			case x > 134:
				wantAts(t, what, c, ats(130, 134, uint16(x)))
			case x == 130 && op == 4:
				wantAts(t, what, c, ats(130))
			case x == 130 || x == 134:
				wantAts(t, what, c, ats(130, 134))
			}
		}
	}
}

func TestFirstErrorOfAnInstruction(t *testing.T) { // P16.3, R2: in their order
	for _, op := range operands {
		wantFault(t, "no operand ahead of a target", at128(1, uint16(2*op)), badFall, 130)
	}
	wantFault(t, "no thread ahead of an operand", at128(1, 0), badOpcode, 130)
	wantFault(t, "no thread ahead of an operand, 64", at128(1, 132, 64), badOpcode, 130)
	wantFault(t, "an odd thread in the last cell", at128(1, 131), badOpcode, 130)
	wantFault(t, "a thread to the code's end", at128(1, 132), badOpcode, 130)
}

func TestThreadsOfAllSorts(t *testing.T) { // P16.3: a cell may be of several kinds at once
	// At 2 a thread to its own cell, which holds 2: const, whose value lies at 4, where the exit is.
	wantWords(t, "its own cell", api.Cart{Code: carts.Code(1, 2, 6, 8), Entry: 0}, flow.Word{At: 0, Instrs: []flow.Instr{{2, 2, 6, 2, 4}, exitAt(4)}})
	// A call of the word at 0, whose code field is the first cell.
	wantWords(t, "a thread 0", api.Cart{Code: carts.Code(1, 0, 6, 8), Entry: 0}, flow.Word{At: 0, Instrs: []flow.Instr{{2, 1, 0, 0, 4}, exitAt(4)}, Calls: ats(0)})
	wantFault(t, "a code field as an instruction", at128(1, 18, 1, 16), badOpcode, 132)
}

func TestCalls(t *testing.T) { // P16.4: each once, rising, itself too; a constant is no call
	a, b := flow.Word{At: 128, Instrs: []flow.Instr{exitAt(130)}}, flow.Word{At: 132, Instrs: []flow.Instr{exitAt(134)}}
	main := func(cells ...uint16) api.Cart {
		return carts.Of(140, append([]uint16{1, 16, 1, 16, 2, 132, 1}, cells...)...)
	}
	calls := func(at, word uint16) flow.Instr { return flow.Instr{At: at, Op: 1, Word: word, Next: at + 2} }
	wantWords(t, "four calls", main(140, 132, 128, 132, 136, 16), a, b, flow.Word{
		At:     140,
		Instrs: []flow.Instr{calls(142, 140), calls(144, 132), calls(146, 128), calls(148, 132), {150, 2, 132, 136, 152}, exitAt(152)},
		Calls:  ats(128, 132, 140),
	})
	wantWords(t, "a constant", main(136, 16), flow.Word{At: 140, Instrs: []flow.Instr{{142, 2, 132, 136, 144}, exitAt(144)}})
	wantWords(t, "a word that is called by another alone", carts.Of(138, 1, 16, 1, 128, 16, 1, 132, 16),
		a, flow.Word{At: 132, Instrs: []flow.Instr{calls(134, 128), exitAt(136)}, Calls: ats(128)},
		flow.Word{At: 138, Instrs: []flow.Instr{calls(140, 132), exitAt(142)}, Calls: ats(132)})
	wantAts(t, "words that call one another", at128(1, 134, 16, 1, 128, 16), ats(130, 132), ats(136, 138))
	wantFault(t, "a word without an instruction", at128(1, 134, 16, 1), badFall, 136)
}

func TestWhatIsNotReached(t *testing.T) { // P16.3, P16.4
	wantAts(t, "behind exit", at128(1, 16, 0, 64, 131), ats(130))
	wantAts(t, "behind halt", at128(1, 22, 0, 64, 131), ats(130))
	wantAts(t, "behind branch", at128(1, 8, 130, 0, 64), ats(130))
	wantAts(t, "between", at128(1, 8, 138, 0, 64, 16), ats(130, 138))
	wantAts(t, "words that nobody calls", carts.Of(134, 1, 0, 64, 1, 16, 1, 77), ats(136))
	wantAts(t, "a call behind exit", at128(1, 16, 138, 16, 1, 1), ats(130))
	wantAts(t, "behind a call of what never returns", carts.Of(132, 1, 22, 1, 128, 140, 16, 1, 16), ats(130), ats(134, 136, 138), ats(142))
}

func TestInstructionsOfTwoWords(t *testing.T) { // P16.4: ErrTarget where one of a word that was looked at ahead lies
	// 128: 1 dup drop exit; 136: main.
	word := func(cells ...uint16) api.Cart {
		return carts.Of(136, append([]uint16{1, 24, 26, 16, 1}, cells...)...)
	}
	wantFault(t, "main leads into a word: the word comes second", word(128, 8, 132), badTarget, 132)
	wantFault(t, "main leads to a word's first", word(128, 8, 130), badTarget, 130)
	wantFault(t, "main leads to a word's last", word(128, 8, 134), badTarget, 134)
	wantAts(t, "main leads into a word that nobody calls", word(8, 132), ats(132, 134, 138))
	wantFault(t, "a word leads into main", carts.Of(136, 1, 10, 138, 16, 1, 128, 16), badTarget, 138)
	wantFault(t, "a word falls onto main's code field", carts.Of(134, 1, 24, 26, 1, 128, 8, 136), badOpcode, 134)
	wantFault(t, "two words lead into one tail", carts.Of(144, 1, 8, 142, 1, 8, 142, 18, 16, 1, 128, 134, 16), badTarget, 142)
	wantFault(t, "two that are shared: the least", carts.Of(136, 1, 24, 26, 16, 1, 128, 10, 134, 8, 132), badTarget, 132)
}

func TestOperandsThatAreInstructions(t *testing.T) { // P16.4: ErrTarget at the least, of each primitive that has one
	wantFault(t, "of lit", at128(1, 6, 16, 8, 132), badTarget, 132)
	wantFault(t, "of branch", api.Cart{Code: carts.Code(1, 8, 10, 0, 4, 8, 4)}, badTarget, 4)
	wantFault(t, "of zbranch", api.Cart{Code: carts.Code(1, 14, 10, 8, 4, 8, 2, 5)}, badTarget, 4)
	wantFault(t, "of loop", api.Cart{Code: carts.Code(1, 14, 10, 8, 4, 8, 2, 7)}, badTarget, 4)
	wantFault(t, "two: the least", at128(1, 6, 16, 6, 16, 10, 136, 8, 132), badTarget, 132)
	wantFault(t, "two, come to in another order", at128(1, 6, 16, 6, 16, 10, 132, 8, 136), badTarget, 132)
	wantFault(t, "another error of the word comes first, at a greater address", at128(1, 6, 16, 10, 132, 0), badOpcode, 138)
	wantFault(t, "another error, at a lesser address", at128(1, 8, 138, 18, 0, 6, 16, 10, 140, 8, 134), badOpcode, 136)
	// What a constant's thread names, and the cell behind it, are no operands in the code.
	wantAts(t, "a constant's value", at128(1, 134, 16, 2, 18, 16), ats(130, 132))
	wantAts(t, "a constant's value that is an instruction", api.Cart{Code: carts.Code(1, 2, 6, 8)}, ats(2, 4))
}

func TestOperandsThatAreInstructionsOfOthers(t *testing.T) { // P16.4, P16.8: that may be, whichever is looked at first
	// 128: 1 lit 16 exit; 136: 1 branch 132.
	wantAts(t, "an operand of a word that was looked at ahead", carts.Of(142, 1, 6, 16, 16, 1, 8, 132, 1, 128, 136, 16), ats(130, 134), ats(132, 138), ats(144, 146, 148))
	// 128: 1 branch 138; 134: 1 lit 16 exit.
	wantAts(t, "an operand of one that comes behind", carts.Of(142, 1, 8, 138, 1, 6, 16, 16, 1, 128, 134, 16), ats(130, 138), ats(136, 140), ats(144, 146, 148))
	// Main itself leads to the operand, ahead of the word that has it.
	wantAts(t, "an operand, by main", carts.Of(136, 1, 6, 16, 16, 1, 128, 8, 132), ats(130, 134), ats(132, 138, 140))
}

func TestWhichErrorIsTheVerdict(t *testing.T) { // P16.4: the word with the least code field that is left, the least address in it
	// 128: 1 and no thread; 132: 1 and an odd target; 138: main.
	wantFault(t, "the first of two words", carts.Of(138, 1, 0, 1, 8, 131, 1, 132, 128, 16), badOpcode, 130)
	wantFault(t, "the second alone", carts.Of(138, 1, 0, 1, 8, 131, 1, 132, 16), badTarget, 134)
	wantFault(t, "main's own, ahead of both", carts.Of(138, 1, 0, 1, 8, 131, 1, 132, 128, 0), badOpcode, 144)
	// 128 is called by 132 alone, and is looked at as soon as it is known, ahead of 138, which has been known for longer.
	wantFault(t, "one that is found later", carts.Of(144, 1, 0, 1, 128, 16, 1, 8, 131, 1, 132, 138, 16), badOpcode, 130)
	wantFault(t, "one that is found later, in order", carts.Of(144, 1, 16, 1, 128, 16, 1, 0, 131, 1, 132, 138, 16), badOpcode, 140)
	// A word behind main, and one ahead of it.
	wantFault(t, "words on both sides", carts.Of(132, 1, 0, 1, 140, 128, 16, 1, 0), badOpcode, 130)
	wantFault(t, "the next instruction ahead of the target", at128(1, 10, 138, 0, 16, 131), badOpcode, 134)
	wantFault(t, "the target ahead of the next one", at128(1, 8, 136, 0, 10, 134, 0), badOpcode, 134)
	wantFault(t, "the target alone", at128(1, 10, 138, 16, 16, 131), badOpcode, 138)
	wantFault(t, "an overlap ahead of a later word's error", carts.Of(140, 1, 6, 16, 8, 132, 0, 1, 128, 150, 16, 0, 1, 0), badTarget, 132)
	wantFault(t, "an error ahead of a later word's overlap", carts.Of(142, 1, 0, 1, 6, 16, 8, 136, 1, 128, 132, 16), badOpcode, 130)
}
