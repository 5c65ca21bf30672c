package infer_test

import (
	"math/rand"
	"strings"

	"wisp/api"
	"wisp/flow"
	"wisp/sources"
)

// maker makes words of all sorts, instruction by instruction, whose branches lead anywhere: for the most part to where the stacks stand alike.
type maker struct {
	*rand.Rand
	word   flow.Word
	known  map[uint16]api.Shape
	fields []uint16 // of what is known
	now    stands
	placed []stands // ahead of each instruction
	open   []branch
	left   []int // the exits' heights
}

// branch is an operand that is still open.
type branch struct {
	instr int
	with  stands
}

func newMaker(r *rand.Rand) *maker { return &maker{Rand: r} }

// Any makes one, and what is known of those that it calls.
func (m *maker) Any() (flow.Word, map[uint16]api.Shape) {
	m.word, m.now, m.placed, m.open, m.left = flow.Word{At: uint16(2 * m.Intn(1000))}, stands{}, nil, nil, nil
	if m.Intn(8) == 0 {
		m.word.At = uint16(65536 - 2*(1+m.Intn(12)))
	}
	m.callees()
	for range m.Intn(14) {
		m.instr()
	}
	m.end()
	m.close()
	for m.Intn(3) == 0 {
		m.spoil()
	}
	return m.word, m.known
}

// callees are some whose shapes count, for the most part, and are small.
func (m *maker) callees() {
	m.known, m.fields = map[uint16]api.Shape{}, nil
	for i := range 4 {
		field := uint16(30000 + 2*i)
		m.fields = append(m.fields, field)
		s := api.Shape{In: m.Intn(3), Out: m.Intn(3), Data: m.Intn(4), Return: m.Intn(3), Never: m.Intn(8) == 0}
		switch m.Intn(30) {
		case 0:
			continue
		case 1:
			s.In = []int{-1, 257, 256, 254}[m.Intn(4)]
		case 2:
			s.Out = []int{-1, 257, 256, 254}[m.Intn(4)]
		case 3:
			s.Data = []int{-1, 257, 256, 254}[m.Intn(4)]
		case 4:
			s.Return = []int{-1, 257, 128, 126}[m.Intn(4)]
		}
		m.known[field] = s
	}
}

// put is an instruction with that step.
func (m *maker) put(op, in, out int) *flow.Instr {
	at := m.word.At + 2
	if n := len(m.word.Instrs); n > 0 {
		last := m.word.Instrs[n-1]
		at = last.At + 2
		if last.Op == 3 || last.Op == 4 || last.Op == 5 || last.Op == 7 {
			at += 2
		}
	}
	next := at + 2
	if op == 3 || op == 4 || op == 5 || op == 7 {
		next += 2
	}
	m.word.Instrs = append(m.word.Instrs, flow.Instr{At: at, Op: op, Next: next})
	m.placed = append(m.placed, m.now)
	m.now.height += out - in
	return &m.word.Instrs[len(m.word.Instrs)-1]
}

func (m *maker) instr() {
	own := m.now.own
	n := len(own)
	switch kind := m.Intn(20); {
	case kind < 3:
		m.put(3, 0, 1).Operand = uint16(m.Intn(65536))
	case kind < 4:
		m.put(2, 0, 1).Word = uint16(m.Intn(65536))
	case kind < 7:
		m.plain()
	case kind < 9:
		m.put(55, 1, 0)
		m.now.own += "S"
	case kind < 10:
		m.put(6, 2, 0)
		m.now.own += "LI"
	case kind < 13 && strings.HasSuffix(own, "S"):
		m.put(56, 0, 1)
		m.now.own = own[:n-1]
	case kind < 12 && strings.HasSuffix(own, "LI"):
		m.jump(7, 0)
		m.now.own = own[:n-2]
	case kind < 13 && n > 0:
		m.put(57+m.Intn(3), 0, 1)
	case kind < 15:
		m.call()
	case kind < 18:
		m.jump(5, 1)
	case kind < 19:
		m.jump(4, 0)
		m.dead()
	default:
		m.end()
	}
}

func (m *maker) plain() {
	list := strings.Fields(sources.Effects)
	names := strings.Fields(primitives)
	i := 3 * m.Intn(len(list)/3)
	for op, name := range names {
		if name == list[i] {
			m.put(1+op, int(list[i+1][0]-'0'), int(list[i+2][0]-'0'))
		}
	}
}

func (m *maker) call() {
	field := m.fields[m.Intn(len(m.fields))]
	s := m.known[field]
	m.put(1, s.In, s.Out).Word = field
	m.word.Calls = append(m.word.Calls, field)
	if s.Never {
		m.dead()
	}
}

func (m *maker) jump(op, in int) {
	m.put(op, in, 0)
	m.open = append(m.open, branch{len(m.word.Instrs) - 1, m.now})
}

// dead goes on in a state with which some branch may come, or in one that has been.
func (m *maker) dead() {
	if len(m.open) > 0 && m.Intn(4) > 0 {
		m.now = m.open[m.Intn(len(m.open))].with
	} else {
		m.now = m.placed[m.Intn(len(m.placed))]
	}
}

// end is an exit, where there may be one, for the most part; else halt, or a branch.
func (m *maker) end() {
	switch {
	case m.now.own == "" && (len(m.left) == 0 || m.left[0] == m.now.height) && m.Intn(6) > 0, m.Intn(20) == 0:
		m.left = append(m.left, m.now.height)
		m.put(8, 0, 0)
	case m.Intn(2) == 0:
		m.put(11, 0, 0)
	default:
		m.jump(4, 0)
	}
	m.dead()
}

// close lets the branches lead to where a state as theirs was, if there was one; now and then anywhere.
func (m *maker) close() {
	for _, b := range m.open {
		to := m.Intn(len(m.placed))
		for range 40 * min(1, m.Intn(20)) {
			if m.placed[to] == b.with {
				break
			}
			to = m.Intn(len(m.placed))
		}
		m.word.Instrs[b.instr].Operand = m.word.Instrs[to].At
	}
}

// spoil changes an instruction.
func (m *maker) spoil() {
	if len(m.word.Instrs) == 0 {
		return
	}
	i, j := m.Intn(len(m.word.Instrs)), m.Intn(len(m.word.Instrs))
	x := &m.word.Instrs[i]
	switch m.Intn(9) {
	case 0:
		x.Op = []int{-1, 0, 64, 65}[m.Intn(4)]
	case 1:
		x.Next = m.word.Instrs[j].At
	case 2:
		x.Operand = m.word.Instrs[j].At
	case 3:
		x.At = m.word.Instrs[j].At
	case 4:
		x.Next = uint16(m.Intn(65536))
	case 5:
		x.Word += uint16(2 * m.Intn(3))
	case 6:
		m.word.Instrs[i], m.word.Instrs[j] = m.word.Instrs[j], m.word.Instrs[i]
	case 7:
		x.Op = 1 + m.Intn(63)
	default:
		m.word.Instrs = append(m.word.Instrs[:i], m.word.Instrs[i+1:]...)
	}
}
