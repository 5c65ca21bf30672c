package sources

import (
	"strconv"
	"strings"
)

// Dice tell a number from 0 to below n: a test's own *rand.Rand.
type Dice interface{ Intn(n int) int }

// Maker writes well-formed programs of all sorts.
type Maker struct {
	Dice
	Writer
	names []string
}

// New is a maker that has written nothing yet.
func New(d Dice) *Maker { return &Maker{Dice: d} }

// Some writes a program of few definitions, and tells its text, with banks.
func (m *Maker) Some() string {
	m.Program(1 + m.Intn(14))
	return m.Source() + m.Banks()
}

// Program writes one of so many definitions, main among them.
func (m *Maker) Program(many int) {
	m.Writer, m.names = Writer{}, nil
	main := m.Intn(many)
	for i := range many {
		s := "n" + strconv.Itoa(i)
		if i == main {
			s = "main"
		}
		switch k := m.Intn(7); {
		case i == main || k < 4:
			m.Word(s, m.body(1+m.Intn(8), 3, false))
		case k == 4:
			m.Constant(s, uint16(m.Intn(65536)))
		case k == 5:
			m.Variable(s)
		default:
			m.Buffer(s, m.Intn(900))
		}
		m.names = append(m.names, s)
	}
}

// leaf is a part without bodies. Those that leave the stacks as they were come often, so that many words have shapes.
func (m *Maker) leaf(inDo bool) Part {
	switch k := m.Intn(12); {
	case k == 0:
		return Primitive(9 + m.Intn(55))
	case k == 1:
		return Number(uint16(m.Intn(65536)))
	case k == 2 && !inDo:
		return Exit()
	case k < 6 && len(m.names) > 0:
		return Name(m.names[m.Intn(len(m.names))])
	case k < 8:
		return Behind(Number(uint16(m.Intn(300))), Primitive(13))
	case k < 10:
		return Behind(Primitive(12), Primitive(13))
	}
	return Primitive(9)
}

// body is parts one behind the other, in one another up to so deep.
func (m *Maker) body(most, deep int, inDo bool) Part {
	var all []Part
	for range m.Intn(most + 1) {
		if deep == 0 || m.Intn(3) > 0 {
			all = append(all, m.leaf(inDo))
		} else {
			all = append(all, m.structure(most/2, deep-1, inDo))
		}
	}
	return Behind(all...)
}

// structure is a row around two bodies, mostly with what its branch takes ahead of it.
func (m *Maker) structure(most, deep int, inDo bool) Part {
	rows := Rows()
	r := rows[m.Intn(len(rows))]
	a := m.body(most, deep, inDo || strings.HasPrefix(r.Src, "do"))
	b := m.body(most, deep, inDo)
	one := Number(uint16(m.Intn(3)))
	switch {
	case m.Intn(6) == 0:
	case strings.HasPrefix(r.Src, "if"):
		return Behind(one, r.Around(a, b))
	case strings.HasPrefix(r.Src, "do"):
		return Behind(one, one, r.Around(a, b))
	case !strings.HasSuffix(r.Src, "again"):
		a = Behind(a, one)
	}
	return r.Around(a, b)
}

// Banks is a text of some of them.
func (m *Maker) Banks() string {
	var b strings.Builder
	for num := range 16 {
		if m.Intn(8) > 0 {
			continue
		}
		b.WriteString(strconv.Itoa(num) + " bank { ")
		for range m.Intn(5) {
			b.WriteString(strconv.Itoa(m.Intn(256)) + " ")
		}
		b.WriteString("} ")
	}
	return b.String()
}
