package flow

import (
	"cmp"
	"maps"
	"slices"

	"wisp/api"
)

// walk goes along every way through a code. It keeps the addresses of all instructions of the words that it has been through: no other word may have one of them.
type walk struct {
	code
	owned map[uint16]struct{}
}

func newWalk(c code) *walk { return &walk{code: c, owned: map[uint16]struct{}{}} }

// words are all those to which the entry leads, and its own.
func (w *walk) words(entry uint16) ([]Word, api.Verdict) {
	var found []Word
	left := newTodo(entry)
	for left.some() {
		word, v := w.word(left.take())
		if v.Err != api.OK {
			return nil, v
		}
		found = append(found, word)
		left.add(word.Calls...)
	}
	slices.SortFunc(found, func(a, b Word) int { return cmp.Compare(a.At, b.At) })
	return found, api.Verdict{}
}

// word is the one with that code field.
func (w *walk) word(at uint16) (Word, api.Verdict) {
	if field, is := w.cell(at); !is || field != api.OpEnter {
		return Word{}, api.Verdict{Err: api.ErrCall, At: at}
	}
	instrs, v := w.instrs(at + cellSize)
	if v.Err != api.OK {
		return Word{}, v
	}
	return Word{At: at, Instrs: instrs, Calls: callsOf(instrs)}, api.Verdict{}
}

// instrs are the instructions of the word whose first one lies there.
func (w *walk) instrs(first uint16) ([]Instr, api.Verdict) {
	var found []Instr
	left := newTodo(first)
	for left.some() {
		at := left.take()
		if _, is := w.owned[at]; is {
			return nil, api.Verdict{Err: api.ErrTarget, At: at}
		}
		x, e := w.instr(at)
		if e != api.OK {
			return nil, api.Verdict{Err: e, At: at}
		}
		found = append(found, x)
		left.add(waysOn(x)...)
	}
	slices.SortFunc(found, func(a, b Instr) int { return cmp.Compare(a.At, b.At) })
	if at, is := overlap(found, left.taken); is {
		return nil, api.Verdict{Err: api.ErrTarget, At: at}
	}
	maps.Copy(w.owned, left.taken)
	return found, api.Verdict{}
}

// overlap is the least address at which an operand of these instructions, which are sorted, is an instruction too.
func overlap(instrs []Instr, addresses map[uint16]struct{}) (uint16, bool) {
	for _, x := range instrs {
		at, has := operandAt(x)
		if _, is := addresses[at]; has && is {
			return at, true
		}
	}
	return 0, false
}

// callsOf are the code fields of the words that are called, each once, rising.
func callsOf(instrs []Instr) []uint16 {
	var calls []uint16
	for _, x := range instrs {
		if x.Op == api.OpEnter {
			calls = append(calls, x.Word)
		}
	}
	slices.Sort(calls)
	return slices.Compact(calls)
}
