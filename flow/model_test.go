package flow_test

import (
	"slices"

	"wisp/api"
	"wisp/flow"
)

// Errors by the document's numbers, not by api's names: a slip in one of the two must show.
const (
	fine      = api.Errno(0)
	badCart   = api.Errno(74)
	badTarget = api.Errno(160)
	badOpcode = api.Errno(161)
	badFall   = api.Errno(162)
	badCall   = api.Errno(163)
)

// model says P16.1 to P16.4 with plain lists, and keeps which cells it has read.
type model struct {
	code  []byte
	asked map[int]bool
	words []flow.Word
}

func newModel(c api.Cart) *model { return &model{code: c.Code, asked: map[int]bool{}} }

func (m *model) in(at int) bool {
	return at%2 == 0 && at >= 0 && at < len(m.code) && at+1 < len(m.code)
}

// cell is asked only of what is in the code.
func (m *model) cell(at int) int {
	m.asked[at] = true
	return int(m.code[at]) + 256*int(m.code[at+1])
}

// instr says P16.3, and tells the ways on.
func (m *model) instr(at int) (x flow.Instr, on []int, e api.Errno) {
	if !m.in(at) {
		return x, nil, badFall
	}
	thread := m.cell(at)
	if !m.in(thread) || m.cell(thread) < 1 || m.cell(thread) > 63 {
		return x, nil, badOpcode
	}
	op, behind := m.cell(thread), (at+2)%65536
	x = flow.Instr{At: uint16(at), Op: op, Next: uint16(behind)}
	switch op {
	case 3, 4, 5, 7:
		if !m.in(behind) {
			return x, nil, badFall
		}
		x.Operand, x.Next = uint16(m.cell(behind)), uint16(at+4)
	case 2:
		if !m.in(thread + 2) {
			return x, nil, badFall
		}
		x.Operand = uint16(m.cell(thread + 2))
	}
	if op == 1 || op == 2 {
		x.Word = uint16(thread)
	}
	jump := op == 4 || op == 5 || op == 7
	if jump && !m.in(int(x.Operand)) {
		return x, nil, badTarget
	}
	if op != 4 && op != 8 && op != 11 {
		on = append(on, int(x.Next))
	}
	if jump {
		on = append(on, int(x.Operand))
	}
	return x, on, fine
}

// all says P16.4 but for cart.Check.
func (m *model) all(entry int) ([]flow.Word, api.Verdict) {
	for left := []int{entry}; len(left) > 0; {
		slices.Sort(left)
		at := left[0]
		left = left[1:]
		if m.has(at) {
			continue
		}
		if !m.in(at) || m.cell(at) != 1 {
			return nil, api.Verdict{Err: badCall, At: uint16(at)}
		}
		instrs, v := m.instrs(at + 2)
		if v.Err != fine {
			return nil, v
		}
		w := flow.Word{At: uint16(at), Instrs: instrs}
		for _, x := range instrs {
			if x.Op == 1 {
				left = append(left, int(x.Word))
				w.Calls = append(w.Calls, x.Word)
			}
		}
		slices.Sort(w.Calls)
		w.Calls = slices.Compact(w.Calls)
		m.words = append(m.words, w)
	}
	slices.SortFunc(m.words, func(a, b flow.Word) int { return int(a.At) - int(b.At) })
	return m.words, api.Verdict{}
}

func (m *model) has(at int) bool {
	return slices.ContainsFunc(m.words, func(w flow.Word) bool { return int(w.At) == at })
}

func (m *model) instrs(first int) ([]flow.Instr, api.Verdict) {
	var found []flow.Instr
	for left := []int{first}; len(left) > 0; {
		slices.Sort(left)
		at := left[0]
		left = left[1:]
		if index(found, at) >= 0 {
			continue
		}
		for _, w := range m.words {
			if index(w.Instrs, at) >= 0 {
				return nil, api.Verdict{Err: badTarget, At: uint16(at)}
			}
		}
		x, on, e := m.instr(at)
		if e != fine {
			return nil, api.Verdict{Err: e, At: uint16(at)}
		}
		found = append(found, x)
		left = append(left, on...)
	}
	slices.SortFunc(found, func(a, b flow.Instr) int { return int(a.At) - int(b.At) })
	for _, x := range found { // by their addresses: the first that is met is the least
		for _, y := range found {
			if (y.Op == 3 || y.Op == 4 || y.Op == 5 || y.Op == 7) && y.At+2 == x.At {
				return nil, api.Verdict{Err: badTarget, At: x.At}
			}
		}
	}
	return found, api.Verdict{}
}

func index(list []flow.Instr, at int) int {
	return slices.IndexFunc(list, func(x flow.Instr) bool { return int(x.At) == at })
}

// ordered says P16.5.
func ordered(ws []flow.Word) ([]uint16, api.Verdict) {
	var told []uint16
	left := slices.Clone(ws)
	for {
		best := -1
		for i, w := range left {
			lacks := slices.ContainsFunc(w.Calls, func(at uint16) bool { return !slices.Contains(told, at) })
			if !lacks && !slices.Contains(told, w.At) && (best < 0 || w.At < left[best].At) {
				best = i
			}
		}
		if best < 0 {
			break
		}
		told = append(told, left[best].At)
		left = slices.Delete(left, best, best+1)
	}
	if len(left) == 0 {
		return told, api.Verdict{}
	}
	least := left[0].At
	for _, w := range left {
		least = min(least, w.At)
	}
	return nil, api.Verdict{Err: badCall, At: least}
}

// alike tells whether two answers are the same: a list without elements may be nil or not.
func alike(a, b []flow.Word) bool {
	return slices.EqualFunc(a, b, func(x, y flow.Word) bool {
		return x.At == y.At && slices.Equal(x.Instrs, y.Instrs) && slices.Equal(x.Calls, y.Calls)
	})
}

// cloned shares nothing with another list.
func cloned(ws []flow.Word) []flow.Word {
	ws = slices.Clone(ws)
	for i := range ws {
		ws[i].Instrs, ws[i].Calls = slices.Clone(ws[i].Instrs), slices.Clone(ws[i].Calls)
	}
	return ws
}
