package sources

import (
	"strconv"
	"strings"
)

// Effects are the primitives' names with the cells that each takes and leaves, by DOC.md's table; halt, and those that look at the return stack, are not here.
const Effects = "nop 0 0 yield 0 0 dup 1 2 drop 1 0 swap 2 2 over 2 3 rot 3 3 nip 2 1 tuck 2 3 2dup 2 4 2drop 2 0 + 2 1 - 2 1 * 2 1 / 2 1 mod 2 1 u/ 2 1 umod 2 1 negate 1 1 abs 1 1 min 2 1 max 2 1 1+ 1 1 1- 1 1 2* 1 1 2/ 1 1 and 2 1 or 2 1 xor 2 1 invert 1 1 lshift 2 1 rshift 2 1 = 2 1 <> 2 1 < 2 1 > 2 1 u< 2 1 u> 2 1 0= 1 1 0< 1 1 @ 1 1 ! 2 0 c@ 1 1 c! 2 0 +! 2 0 plot 3 0 pad 0 1 tone 2 0 bank 1 0"

// Lively writes typable programs whose lives are long, for the most part: they read and write everywhere, plot, play, and yield.
type Lively struct {
	Dice
	Words  []string // those of the program that was written last
	callee []callee
	values []string
	stacks
}

// callee is a word that has been written, with what it takes and leaves.
type callee struct {
	name    string
	in, out int
}

// stacks are how both stand where the word goes on that is being written: the data stack's cells, from where the word began, the fewest there have been, and the word's own cells of the return stack, each by its kind's letter.
type stacks struct {
	height, low int
	own         string
	out         int // the height at which the word is left
	left        bool
	main        bool // nothing lies below what it has put there itself
}

// NewLively is a maker that has written nothing yet.
func NewLively(d Dice) *Lively { return &Lively{Dice: d} }

// Program writes one of so many definitions ahead of main, and tells its text.
func (l *Lively) Program(many int) string {
	l.Words, l.callee, l.values = nil, nil, nil
	for i := range many {
		l.define("n" + strconv.Itoa(i))
	}
	l.stacks = stacks{main: true, left: true}
	l.put(":", "main")
	l.body(4, 2, false)
	if l.level(0); l.Intn(8) > 0 {
		l.put("begin")
		l.body(8, 3, false)
		l.level(0)
		l.put("yield", "again")
	}
	l.put(";")
	for num := range 16 {
		if l.Intn(10) == 0 {
			l.put(strconv.Itoa(num), "bank", "{", l.number(256), l.number(256), "}")
		}
	}
	return strings.Join(l.Words, " ")
}

func (l *Lively) put(words ...string) { l.Words = append(l.Words, words...) }

func (l *Lively) number(below int) string { return strconv.Itoa(l.Intn(below)) }

func (l *Lively) define(name string) {
	switch l.Intn(8) {
	case 0:
		l.put(l.number(65536), "constant", name)
	case 1:
		l.put("variable", name)
	case 2:
		l.put(l.number(400), "buffer", name)
	default:
		l.word(name)
		return
	}
	l.values = append(l.values, name)
}

func (l *Lively) word(name string) {
	l.stacks = stacks{}
	l.put(":", name)
	l.body(7, 3, false)
	if l.left {
		l.level(l.out)
	}
	l.put(";")
	l.callee = append(l.callee, callee{name, -l.low, l.height - l.low})
}

// step is what takes so many cells and leaves so many. In main they are there; else what lies below may be taken too.
func (l *Lively) step(in, out int, words ...string) {
	for in > 0 && l.height < in && (l.main || l.Intn(3) > 0) {
		l.take(0, 1, l.value())
	}
	l.take(in, out, words...)
}

func (l *Lively) take(in, out int, words ...string) {
	l.put(words...)
	l.height -= in
	l.low = min(l.low, l.height)
	l.height += out
}

// value is a word that puts a cell there.
func (l *Lively) value() string {
	switch {
	case l.Intn(3) == 0 && len(l.values) > 0:
		return one(l, l.values...)
	case l.Intn(3) == 0:
		return l.number(65536)
	}
	return l.number(5)
}

// level goes to a height.
func (l *Lively) level(height int) {
	for l.height < height {
		l.take(0, 1, l.value())
	}
	for l.height > height {
		l.take(1, 0, "drop")
	}
}

// body is some nodes, which leave the return stack as it was.
func (l *Lively) body(size, deep int, inDo bool) {
	base := len(l.own)
	for range l.Intn(size + 1) {
		l.node(size, deep, base, inDo)
	}
	for len(l.own) > base {
		l.saved("r>")
	}
}

func (l *Lively) node(size, deep, base int, inDo bool) {
	switch kind := l.Intn(24); {
	case kind < 3:
		l.step(0, 1, l.value())
	case kind < 7:
		list := strings.Fields(Effects)
		i := 3 * l.Intn(len(list)/3)
		l.step(int(list[i+1][0]-'0'), int(list[i+2][0]-'0'), list[i])
	case kind < 11:
		l.use()
	case kind < 14:
		l.saved(one(l, ">r", ">r", "r@", "i", "j", "r>"), base)
	case kind < 17 && len(l.callee) > 0:
		x := l.callee[l.Intn(len(l.callee))]
		l.step(x.in, x.out, x.name)
	case kind == 17 && !inDo && l.own == "":
		l.exit()
	case deep > 0:
		l.structure(size/2, deep-1, inDo)
	}
}

// use does something to the memory, where there is some.
func (l *Lively) use() {
	at := one(l, "16384", "16385", "32767", "32768", "49151", "49152", "52223", "65280", "65282", "65284", "65286", "65288", "65535", "0")
	if len(l.values) > 0 && l.Intn(2) == 0 {
		at = one(l, l.values...)
	}
	switch l.Intn(6) {
	case 0:
		l.step(0, 1, at, one(l, "@", "c@"))
	case 1:
		l.step(1, 0, at, one(l, "!", "c!", "+!"))
	case 2:
		l.step(1, 0, l.number(70), l.number(50), "plot")
	case 3:
		l.step(1, 0, l.number(300), "tone")
	case 4:
		l.step(0, 0, l.number(20), "bank")
	default:
		l.step(0, 1, "pad")
	}
}

// saved uses the return stack, if what is to be done may be done where it stands; cells up to base stay there.
func (l *Lively) saved(word string, base ...int) {
	n := len(l.own)
	is := func(from int, kind byte) bool { return n >= from && l.own[n-from] == kind }
	switch {
	case word == ">r" && n < 20:
		l.step(1, 0, word)
		l.own += "S"
	case word == "r>" && is(1, 'S') && (base == nil || n > base[0]):
		l.step(0, 1, word)
		l.own = l.own[:n-1]
	case word == "r@" && is(1, 'S'), word == "i" && is(1, 'I'), word == "j" && is(3, 'I'):
		l.step(0, 1, word)
	}
}

// exit leaves the word now and then, always with as many cells.
func (l *Lively) exit() {
	l.step(1, 0, one(l, "pad", "0", "dup"), "and", "if")
	at := l.height
	if !l.left {
		l.left, l.out = true, at
	}
	l.level(l.out)
	l.put(one(l, "exit", "exit", "exit", "halt"), "then")
	l.height = at
}

// structure is one of each kind; a loop of which nobody knows when it ends yields.
func (l *Lively) structure(size, deep int, inDo bool) {
	part := func(to int, inDo bool) { l.body(size, deep, inDo); l.level(to) }
	switch at := l.height; l.Intn(6) {
	case 0:
		l.put("pad", l.number(4), "and", "if")
		part(at, inDo)
		l.put("then")
	case 1:
		end := at + l.Intn(2)
		l.put("pad", l.number(4), "and", "if")
		part(end, inDo)
		l.put("else")
		l.height = at
		part(end, inDo)
		l.put("then")
	case 2:
		l.put("begin")
		part(at, inDo)
		l.put(one(l, "1", "yield pad", "65288 c@ 1 and", "pad 5 + 0 <>"), "until")
	case 3:
		l.step(0, 1, "0", "begin", "1+", "dup", l.number(6), one(l, "<", "u<", "<>"), "while")
		part(at+1, inDo)
		l.put(one(l, "repeat", "yield repeat"))
	case 4:
		l.put("pad", "77", "=", "if", "begin")
		part(at, inDo)
		l.put("yield", "again", "then")
	default:
		l.put(l.number(4), l.number(2), "do")
		l.own += "LI"
		part(at, true)
		l.own = l.own[:len(l.own)-2]
		l.put("loop")
	}
}
