package emit_test

import (
	"math/rand"
	"strconv"
	"strings"
	"testing"

	"wisp/api"
	"wisp/tree"
)

// part is a piece of a source, and what the document says that it comes to, as words: a number is a cell; x: is no cell, but marks the place of the next one; x> is the address of that mark.
type part struct{ src, cells string }

// row is one of 13.2's table that has bodies: A and B stand for them.
type row part

var rows = []row{
	{"if A then", "10 end> A end:"},
	{"if A else B then", "10 b> A 8 end> b: B end:"},
	{"begin A until", "a: A 10 a>"},
	{"begin A while B repeat", "a: A 10 end> B 8 a> end:"},
	{"begin A again", "a: A 8 a>"},
	{"do A loop", "12 a: A 14 a>"},
}

// twofold tells whether it has two bodies.
func (r row) twofold() bool { return strings.Contains(r.src, "B") }

// primitives are the names in the order of DOC.md's table, from number 9 on.
const primitives = "nop yield halt dup drop swap over rot nip tuck 2dup 2drop + - * / mod u/ umod negate abs min max 1+ 1- 2* 2/ and or xor invert lshift rshift = <> < > u< u> 0= 0< @ ! c@ c! +! >r r> r@ i j plot pad tone bank"

func primitive(op int) part {
	return part{strings.Fields(primitives)[op-9], strconv.Itoa(2 * op)}
}

func number(x uint16) part {
	s := strconv.Itoa(int(x))
	return part{s, "6 " + s}
}

func name(s string) part { return part{s, s + ">"} }

var exit = part{"exit", "16"}

// behind is parts one behind the other.
func behind(list ...part) part {
	var src, cells strings.Builder
	for i, p := range list {
		src.WriteString(p.src + " ")
		cells.WriteString(p.placed(strconv.Itoa(i)) + " ")
	}
	return part{src.String(), cells.String()}
}

// placed is a part's cells where it is the one of that name among others: the marks of its rows, which have a #, are made its own, so that it may stand in many places.
func (p part) placed(as string) string {
	if !strings.Contains(p.cells, "#") {
		return p.cells
	}
	words := strings.Fields(p.cells)
	for i, x := range words {
		if strings.Contains(x, "#") {
			words[i] = as + "." + x
		}
	}
	return strings.Join(words, " ")
}

// around is a row with its bodies in it.
func (r row) around(a, b part) part {
	src := strings.NewReplacer("A", a.src, "B", b.src).Replace(r.src)
	cells := strings.NewReplacer(":", "#:", ">", "#>", "A", a.placed("A"), "B", b.placed("B")).Replace(r.cells)
	return part{src, cells}
}

// writer writes programs, definition by definition.
type writer struct {
	defs []part
	ram  int
}

func (w *writer) word(name string, body ...part) {
	b := behind(body...)
	w.defs = append(w.defs, part{": " + name + " " + b.src + " ;", name + ": 1 " + b.cells + " 16"})
}

func (w *writer) constant(name string, value uint16) {
	s := strconv.Itoa(int(value))
	w.defs = append(w.defs, part{s + " constant " + name, name + ": 2 " + s})
}

func (w *writer) variable(name string) {
	w.defs = append(w.defs, part{"variable " + name, name + ": 2 " + strconv.Itoa(0x8000+w.ram)})
	w.ram += 2
}

func (w *writer) buffer(name string, bytes int) {
	w.defs = append(w.defs, part{strconv.Itoa(bytes) + " buffer " + name, name + ": 2 " + strconv.Itoa(0x8000+w.ram)})
	w.ram += bytes
}

func (w *writer) source() string { return behind(w.defs...).src }

// bytes makes the code: the primitives' cells, and then the definitions', low byte first.
func (w *writer) bytes(t *testing.T) []byte {
	t.Helper()
	var code []byte
	for k := range 64 {
		code = append(code, byte(k), 0)
	}
	words := strings.Fields(behind(w.defs...).cells)
	marks, at := map[string]int{}, len(code)
	for _, x := range words {
		if mark, is := strings.CutSuffix(x, ":"); is {
			marks[mark] = at
		} else {
			at += 2
		}
	}
	for _, x := range words {
		if strings.HasSuffix(x, ":") {
			continue
		}
		value, is := 0, false
		if mark, asked := strings.CutSuffix(x, ">"); asked {
			value, is = marks[mark]
		} else {
			n, err := strconv.Atoi(x)
			value, is = n, err == nil
		}
		if !is {
			t.Fatalf("the tests' own %s is no cell", x)
		}
		code = append(code, byte(value%256), byte(value/256))
	}
	return code
}

// taken is the program of a text.
func taken(t *testing.T, src string) api.Program {
	t.Helper()
	p, at, e := tree.Parse(src)
	if e != fine {
		t.Fatalf("the tests' own %.300q: %d at %v", src, e, at)
	}
	return p
}

// maker writes programs of all sorts.
type maker struct {
	*rand.Rand
	writer
	names []string
}

func makerOf(seed int64) *maker { return &maker{Rand: rand.New(rand.NewSource(seed))} }

// leaf is a part without bodies. Those that leave the stacks as they were come often, so that many words have shapes.
func (m *maker) leaf(inDo bool) part {
	switch k := m.Intn(12); {
	case k == 0:
		return primitive(9 + m.Intn(55))
	case k == 1:
		return number(uint16(m.Intn(65536)))
	case k == 2 && !inDo:
		return exit
	case k < 6 && len(m.names) > 0:
		return name(m.names[m.Intn(len(m.names))])
	case k < 8:
		return behind(number(uint16(m.Intn(300))), primitive(13))
	case k < 10:
		return behind(primitive(12), primitive(13))
	}
	return primitive(9)
}

// body is parts one behind the other, in one another up to so deep. A row in it mostly has what its branch takes ahead of it.
func (m *maker) body(most, deep int, inDo bool) part {
	var all []part
	for range m.Intn(most + 1) {
		if deep == 0 || m.Intn(3) > 0 {
			all = append(all, m.leaf(inDo))
			continue
		}
		r := rows[m.Intn(len(rows))]
		a := m.body(most/2, deep-1, inDo || strings.HasPrefix(r.src, "do"))
		b := m.body(most/2, deep-1, inDo)
		one := number(uint16(m.Intn(3)))
		switch {
		case m.Intn(6) == 0:
		case strings.HasPrefix(r.src, "if"):
			all = append(all, one)
		case strings.HasPrefix(r.src, "do"):
			all = append(all, one, one)
		case !strings.HasSuffix(r.src, "again"):
			a = behind(a, one)
		}
		all = append(all, r.around(a, b))
	}
	return behind(all...)
}

// program writes one of so many definitions, main among them.
func (m *maker) program(many int) {
	m.writer, m.names = writer{}, nil
	main := m.Intn(many)
	for i := range many {
		s := "n" + strconv.Itoa(i)
		if i == main {
			s = "main"
		}
		switch k := m.Intn(7); {
		case i == main || k < 4:
			m.word(s, m.body(1+m.Intn(8), 3, false))
		case k == 4:
			m.constant(s, uint16(m.Intn(65536)))
		case k == 5:
			m.variable(s)
		default:
			m.buffer(s, m.Intn(900))
		}
		m.names = append(m.names, s)
	}
}

// banks is a text of some of them.
func (m *maker) banks() string {
	var b strings.Builder
	for num := range 16 {
		if m.Intn(8) > 0 {
			continue
		}
		b.WriteString(strconv.Itoa(num) + " bank { ")
		for range m.Intn(5) {
			b.WriteString(strconv.Itoa(m.Intn(256)) + " ")
		}
		b.WriteString("} ")
	}
	return b.String()
}
