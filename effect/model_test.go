package effect_test

import (
	"bytes"
	"fmt"
	"math/rand"
	"slices"
	"strconv"
	"strings"
	"testing"

	"wisp/api"
	"wisp/effect"
	"wisp/sources"
	"wisp/tree"
)

// model says 11.1 to 11.3 once more: not over the tree, but word by word through the text, as a compiler of one pass goes, with the structures that are open on a stack. Its texts have no comments and no banks.
type model struct {
	plain map[string][2]int // the primitives of the table sources.Effects
	kinds map[string]string // what each name was defined by
	told  []effect.Typed
	named map[string]effect.Typed

	// Of the word that is being read:
	now  stands
	open []structure
	in   int
	data int
	ret  int
	outs []int // the exits' heights that were taken
	err  api.Errno
	at   api.Pos
}

// stands is a state; one that is dead is as good as any other dead one.
type stands struct {
	alive  bool
	height int
	own    []byte // L, I and S
}

type structure struct {
	pos   api.Pos
	begin stands
	other stands // behind the first body of two: what goes on from there
	first bool   // whether there is a first body of two
}

func newModel() *model {
	m := &model{plain: map[string][2]int{}, kinds: map[string]string{}, named: map[string]effect.Typed{}}
	list := strings.Fields(sources.Effects)
	for i := 0; i < len(list); i += 3 {
		m.plain[list[i]] = [2]int{int(list[i+1][0] - '0'), int(list[i+2][0] - '0')}
	}
	return m
}

// modelled is what the model tells of a text that is well formed.
func modelled(src string) []effect.Typed {
	m := newModel()
	words, places := scanned(src)
	for i := 0; i < len(words); {
		switch words[i] {
		case ":":
			end := i + slices.Index(words[i:], ";")
			m.word(words[i+1], places[i+1], words[i+2:end], places[i+2:end])
			m.kinds[words[i+1]] = ":"
			i = end + 1
		case "variable":
			m.kinds[words[i+1]] = "variable"
			i += 2
		default:
			m.kinds[words[i+2]] = words[i+1]
			i += 3
		}
	}
	return m.told
}

// scanned cuts a text into its words with their places.
func scanned(src string) (words []string, places []api.Pos) {
	for i, line := range strings.Split(src, "\n") {
		for j, b := range []byte(line) {
			begins := j == 0 || line[j-1] == ' '
			switch {
			case b == ' ':
			case begins:
				words, places = append(words, string(rune(b))), append(places, pos(i+1, j+1))
			default:
				words[len(words)-1] += string(rune(b))
			}
		}
	}
	return words, places
}

func (m *model) word(name string, at api.Pos, words []string, places []api.Pos) {
	m.now, m.open, m.outs = stands{alive: true}, nil, nil
	m.in, m.data, m.ret, m.err, m.at = 0, 0, 0, fine, api.Pos{}
	for i, w := range words {
		m.take(w, places[i])
	}
	m.leave(at)
	t := effect.Typed{Name: name, Shape: api.Shape{In: m.in, Data: m.data, Return: m.ret, Never: len(m.outs) == 0}}
	if len(m.outs) > 0 {
		t.Shape.Out = m.in + m.outs[0]
		m.need(t.Shape.Out <= 256, badDepth, at)
	}
	if m.err != fine {
		t = effect.Typed{Name: name, Err: m.err, Pos: m.at}
	}
	m.told = append(m.told, t)
	m.named[name] = t
}

// need keeps the first fault; behind it all is dead, so that nothing more is told.
func (m *model) need(holds bool, e api.Errno, at api.Pos) {
	if !holds && m.err == fine {
		m.err, m.at = e, at
	}
}

func (m *model) live() bool { return m.now.alive && m.err == fine }

func (m *model) limits(at api.Pos) {
	m.need(m.in <= 256 && m.data <= 256 && m.ret <= 128, badDepth, at)
}

func (m *model) step(in, out int, at api.Pos) {
	if !m.live() {
		return
	}
	m.in = max(m.in, in-m.now.height)
	m.now.height += out - in
	m.data = max(m.data, m.now.height)
	m.limits(at)
}

func (m *model) push(kinds string, at api.Pos) {
	if m.live() {
		m.now.own = append(bytes.Clone(m.now.own), kinds...)
		m.ret = max(m.ret, len(m.now.own))
		m.limits(at)
	}
}

func (m *model) pop(many int) {
	if m.live() {
		m.now.own = bytes.Clone(m.now.own[:len(m.now.own)-many])
	}
}

// top needs an own cell of a kind, so many from the top.
func (m *model) top(from int, kind byte, at api.Pos) {
	if m.live() {
		n := len(m.now.own)
		m.need(n >= from && m.now.own[max(n-from, 0)] == kind, badReturn, at)
	}
}

func (m *model) die() { m.now = stands{} }

func alike(a, b stands) bool { return a.height == b.height && bytes.Equal(a.own, b.own) }

func (m *model) leave(at api.Pos) {
	if m.live() {
		m.need(len(m.now.own) == 0, badReturn, at)
		m.need(len(m.outs) == 0 || m.outs[0] == m.now.height, badJoin, at)
		m.outs = append(m.outs, m.now.height)
	}
	m.die()
}

func (m *model) begin(at api.Pos) {
	m.open = append(m.open, structure{pos: at, begin: m.now})
}

// close takes the structure that was opened last, and tells the state in which its loop must end.
func (m *model) close() structure {
	s := m.open[len(m.open)-1]
	m.open = m.open[:len(m.open)-1]
	return s
}

func (m *model) round(s structure) {
	if m.live() {
		m.need(alike(m.now, s.begin), badLoop, s.pos)
	}
}

func (m *model) take(w string, at api.Pos) {
	last := len(m.open) - 1
	switch w {
	case ">r":
		m.step(1, 0, at)
		m.push("S", at)
	case "r>":
		m.top(1, 'S', at)
		m.step(0, 1, at)
		m.pop(1)
	case "r@":
		m.top(1, 'S', at)
		m.step(0, 1, at)
	case "i":
		m.top(1, 'I', at)
		m.step(0, 1, at)
	case "j":
		m.top(3, 'I', at)
		m.step(0, 1, at)
	case "halt":
		m.die()
	case "exit":
		m.leave(at)
	case "if":
		m.step(1, 0, at)
		m.begin(at)
	case "else":
		m.open[last].first, m.open[last].other = true, m.now
		m.now = m.open[last].begin
	case "then":
		m.then()
	case "begin":
		m.begin(at)
	case "until":
		m.step(1, 0, m.open[last].pos)
		m.round(m.close())
	case "while":
		m.step(1, 0, m.open[last].pos)
		m.open[last].other = m.now
	case "repeat":
		s := m.close()
		m.round(s)
		m.now = s.other
	case "again":
		m.round(m.close())
		m.die()
	case "do":
		m.step(2, 0, at)
		m.push("LI", at)
		m.begin(at)
	case "loop":
		m.round(m.close())
		if m.live() {
			m.pop(2)
		}
	default:
		m.other(w, at)
	}
}

func (m *model) then() {
	s := m.close()
	a, b := m.now, s.begin
	if s.first {
		a, b = s.other, m.now
	}
	if a.alive && b.alive && m.err == fine {
		m.need(alike(a, b), badJoin, s.pos)
	}
	if m.now = a; !a.alive {
		m.now = b
	}
}

// other is a primitive, a name or a number.
func (m *model) other(w string, at api.Pos) {
	if p, is := m.plain[w]; is {
		m.step(p[0], p[1], at)
		return
	}
	if m.kinds[w] != ":" {
		m.step(0, 1, at)
		return
	}
	if !m.live() {
		return
	}
	t := m.named[w]
	m.need(t.Err == fine, t.Err, at)
	s := t.Shape
	m.in = max(m.in, s.In-m.now.height)
	m.data = max(m.data, m.now.height+s.Data)
	m.ret = max(m.ret, len(m.now.own)+1+s.Return)
	m.now.height += s.Out - s.In
	m.limits(at)
	if s.Never {
		m.die()
	}
}

// wantModelled holds Shapes and Typable of a text to the model.
func wantModelled(t *testing.T, src string) []effect.Typed {
	t.Helper()
	p := taken(t, src)
	got, e := effect.Shapes(p)
	want := modelled(src)
	if e != fine || !slices.Equal(got, want) {
		for i := range min(len(got), len(want)) {
			if got[i] != want[i] {
				t.Fatalf("Shapes(%s): %+v, want %+v", brief(src), got[i], want[i])
			}
		}
		t.Fatalf("Shapes(%s): %d shapes, error %d, want %d shapes", brief(src), len(got), e, len(want))
	}
	wantErr, wantPos := modelledTypable(src, want)
	if e, at := effect.Typable(p); e != wantErr || at != wantPos {
		t.Fatalf("Typable(%s) = %d, %v, want %d, %v", brief(src), e, at, wantErr, wantPos)
	}
	return got
}

// modelledTypable says 11.5 once more, by the text: from main on, name by name.
func modelledTypable(src string, told []effect.Typed) (api.Errno, api.Pos) {
	words, places := scanned(src)
	bodies := map[string][]string{}
	var main api.Pos
	for i, w := range words {
		if w == ":" {
			bodies[words[i+1]] = words[i+2 : i+slices.Index(words[i:], ";")]
			if words[i+1] == "main" {
				main = places[i+1]
			}
		}
	}
	led := map[string]bool{}
	var from func(name string)
	from = func(name string) {
		led[name] = true
		for _, w := range bodies[name] {
			if _, is := bodies[w]; is && !led[w] {
				from(w)
			}
		}
	}
	from("main")
	for _, x := range told {
		if led[x.Name] && x.Err != fine {
			return x.Err, x.Pos
		}
	}
	for _, x := range told {
		if x.Name == "main" && (x.Shape.In > 0 || !x.Shape.Never && x.Shape.Out > 0) {
			return badEffect, main
		}
	}
	return fine, api.Pos{}
}

// wantAllModelled holds many bodies to the model, as many in a text as it has room for.
func wantAllModelled(t *testing.T, first string, list []string) map[api.Errno]int {
	t.Helper()
	met := map[api.Errno]int{}
	for len(list) > 0 {
		var src strings.Builder
		src.WriteString(first)
		many := 0
		for many < len(list) && src.Len() < 60000 {
			src.WriteString(": x" + strconv.Itoa(many) + " " + list[many] + " ;\n")
			many++
		}
		list = list[many:]
		for _, x := range wantModelled(t, src.String()+": main ;") {
			met[x.Err]++
		}
	}
	return met
}

func wantMet(t *testing.T, met map[api.Errno]int, errors ...api.Errno) {
	t.Helper()
	for _, e := range errors {
		if met[e] < 20 {
			t.Errorf("error %d was met %d times: %v", e, met[e], met)
		}
	}
}

func TestEveryShortBody(t *testing.T) { // 11.1 to 11.4
	first := ": w drop 1 >r r> ; : never begin again ; : bad r> ;\n"
	for many, leaves := range map[int]string{
		3: "1 drop dup >r r> r@ i j exit halt w never bad",
		4: "1 drop >r r> halt",
	} {
		met := wantAllModelled(t, first, sources.Bodies(strings.Fields(leaves), many, false))
		wantMet(t, met, fine, badJoin, badLoop)
		wantMet(t, met, badReturn)
	}
}

// maker makes texts whose words have shapes for the most part.
type maker struct {
	*rand.Rand
	words  []string
	shapes []effect.Typed // of the words so far
	values []string       // names of constants, variables, buffers
	height int
	own    []byte
	out    int // the exits' height, if there is one
	exits  bool
	exact  bool // nothing may be asked of the stack but what goes
}

func (m *maker) put(words ...string) { m.words = append(m.words, words...) }

func (m *maker) one(of ...string) string { return of[m.Intn(len(of))] }

// level goes to a height.
func (m *maker) level(height int) {
	for ; m.height < height; m.height++ {
		if m.Intn(3) == 0 && len(m.values) > 0 {
			m.put(m.one(m.values...))
		} else {
			m.put(strconv.Itoa(m.Intn(65536)))
		}
	}
	for ; m.height > height; m.height-- {
		if m.exact || m.Intn(2) == 0 {
			m.put("drop")
		} else {
			m.put(m.one("nip", "+", "xor"))
		}
	}
}

// body puts some nodes there, and leaves the own cells as they were.
func (m *maker) body(size, deep int, inDo bool) {
	base := len(m.own)
	for range m.Intn(size + 1) {
		m.node(size, deep, base, inDo)
	}
	for len(m.own) > base {
		m.put("r>", "drop")
		m.own = m.own[:len(m.own)-1]
	}
}

func (m *maker) node(size, deep, base int, inDo bool) {
	kind := m.Intn(20)
	switch {
	case kind < 3:
		m.level(m.height + 1)
	case kind < 6:
		m.primitive()
	case kind < 9:
		m.onReturn(base)
	case kind < 12:
		m.call()
	case deep == 0:
		m.put("nop")
	case kind < 19:
		m.structure(kind, size, deep-1, inDo)
	case !inDo && len(m.own) == 0:
		m.put("if")
		m.height--
		at := m.height
		if !m.exits {
			m.exits, m.out = true, m.height+m.Intn(2)
		}
		m.level(m.out)
		m.put("exit", "then")
		m.height = at
	}
}

func (m *maker) primitive() {
	list := strings.Fields(sources.Effects)
	i := 3 * m.Intn(len(list)/3)
	m.put(list[i])
	m.height += int(list[i+2][0]) - int(list[i+1][0])
}

// onReturn uses the return stack as it stands.
func (m *maker) onReturn(base int) {
	n := len(m.own)
	switch {
	case n > base && m.Intn(2) == 0:
		m.put("r>")
		m.own = m.own[:n-1]
		m.height++
	case n > 0 && m.own[n-1] == 'S' && m.Intn(2) == 0:
		m.put("r@")
		m.height++
	case n > 0 && m.own[n-1] == 'I' && m.Intn(2) == 0:
		m.put("i")
		m.height++
	case n > 2 && m.own[n-3] == 'I' && m.Intn(2) == 0:
		m.put("j")
		m.height++
	default:
		m.put(">r")
		m.own = append(bytes.Clone(m.own), 'S')
		m.height--
	}
}

func (m *maker) call() {
	if len(m.shapes) == 0 {
		return
	}
	x := m.shapes[m.Intn(len(m.shapes))]
	if x.Err != fine {
		m.put("0", "if", "halt", x.Name, "then")
	} else if x.Shape.Never {
		m.put("0", "if", x.Name, "then")
	} else {
		m.put(x.Name)
		m.height += x.Shape.Out - x.Shape.In
	}
}

func (m *maker) structure(kind, size, deep int, inDo bool) {
	switch kind {
	case 12:
		m.put("if")
		at := m.height - 1
		m.part(size, deep, inDo, at, at)
		m.put("then")
	case 13, 14:
		m.put("if")
		at, end := m.height-1, m.height-m.Intn(3)
		m.part(size, deep, inDo, at, end)
		m.put("else")
		m.part(size, deep, inDo, at, end)
		m.put("then")
	case 15:
		m.put("begin")
		at := m.height
		m.part(size, deep, inDo, at, at+1)
		m.put("until")
		m.height = at
	case 16:
		m.put("begin")
		at, mid := m.height, m.height+m.Intn(3)-1
		m.part(size, deep, inDo, at, mid+1)
		m.put("while")
		m.part(size, deep, inDo, mid, at)
		m.put("repeat")
		m.height = mid
	case 17:
		m.put("0", "if", "begin")
		at := m.height
		m.part(size, deep, inDo, at, at)
		m.put("yield", "again", "then")
	case 18:
		m.put(strconv.Itoa(1+m.Intn(3)), "0", "do")
		at := m.height
		m.own = append(bytes.Clone(m.own), "LI"...)
		m.part(size, deep, true, at, at)
		m.own = m.own[:len(m.own)-2]
		m.put("loop")
	}
}

// part puts a body there from one height to another; now and then it ends dead.
func (m *maker) part(size, deep int, inDo bool, from, to int) {
	m.height = from
	m.body(size/2, deep, inDo)
	m.level(to)
	if m.Intn(40) == 0 {
		m.put("halt")
	}
}

// source makes a text of so many definitions, main the last of them.
func (m *maker) source(items int) string {
	m.words, m.shapes, m.values, m.exact = nil, nil, nil, false
	for i := range items {
		name := m.one("n", "x#", "))", "bo", "--") + strconv.Itoa(i)
		if m.Intn(4) == 0 {
			m.values = append(m.values, name)
			switch m.Intn(3) {
			case 0:
				m.put("variable", name)
			case 1:
				m.put(strconv.Itoa(m.Intn(65536)), "constant", name)
			case 2:
				m.put(strconv.Itoa(m.Intn(100)), "buffer", name)
			}
			continue
		}
		m.put(":", name)
		m.height, m.own, m.exits = 0, nil, false
		m.body(8, 3, false)
		if m.exits {
			m.level(m.out)
		}
		m.put(";")
		m.shapes = modelled(strings.Join(m.words, " "))
	}
	m.put(":", "main")
	m.mainBody()
	m.put(";")
	return m.text(m.words)
}

// mainBody calls each word that has a shape with just what it takes.
func (m *maker) mainBody() {
	m.height, m.own, m.exact = 0, nil, true
	for _, x := range m.shapes {
		if x.Err != fine || x.Shape.Never && m.Intn(4) > 0 {
			continue
		}
		m.level(x.Shape.In)
		m.put(x.Name)
		m.height = x.Shape.Out
		m.level(0)
		if x.Shape.Never {
			break
		}
	}
}

// text puts words together with any blanks.
func (m *maker) text(words []string) string {
	var b strings.Builder
	for _, w := range words {
		b.WriteString(w)
		b.WriteString(m.one(" ", " ", "\n", "  ", " \n "))
	}
	return b.String()
}

func TestAnyProgram(t *testing.T) { // 11.1 to 11.5: those that are typable for the most part, and those with some words put in, taken out or changed
	m := &maker{Rand: rand.New(rand.NewSource(1111))}
	met := map[api.Errno]int{}
	typable := 0
	for range 1000 {
		src := m.source(1 + m.Intn(8))
		for _, x := range wantModelled(t, src) {
			met[x.Err]++
		}
		if e, _ := effect.Typable(taken(t, src)); e == fine {
			typable++
		}
		for range 4 {
			words := slices.Clone(m.words)
			for range 1 + m.Intn(2) {
				i := m.Intn(len(words))
				with := m.one("1", "drop", "dup", ">r", "r>", "r@", "i", "j", "exit", "halt", "nop", "2dup", "plot")
				switch m.Intn(3) {
				case 0:
					words = slices.Insert(words, i, with)
				case 1:
					words = slices.Delete(words, i, i+1)
				default:
					words[i] = with
				}
			}
			other := m.text(words)
			if _, _, e := tree.Parse(other); e != fine {
				continue
			}
			for _, x := range wantModelled(t, other) {
				met[x.Err]++
			}
		}
	}
	wantMet(t, met, fine, badJoin, badLoop, badReturn)
	if typable < 800 {
		t.Errorf("%d programs were typable", typable)
	}
}

func TestGrowingPrograms(t *testing.T) { // 11.1, 11.3: words of words, till the stacks are too low; and each with as much ahead of it as there may be, and a cell more
	r := rand.New(rand.NewSource(1112))
	met := map[api.Errno]int{}
	var most api.Shape
	for range 40 {
		src := growing(r)
		shapes := slices.DeleteFunc(modelled(src), func(x effect.Typed) bool { return x.Err != fine })
		for i := range 5 {
			x := shapes[r.Intn(len(shapes))]
			for more := range 2 {
				ret := 128 - 1 - x.Shape.Return + more
				src += fmt.Sprintf(": in%d%d %s %s ;\n", i, more, times(256-x.Shape.In+more, "drop"), x.Name)
				src += fmt.Sprintf(": data%d%d %s %s ;\n", i, more, times(256-x.Shape.Data+more, "1"), x.Name)
				src += fmt.Sprintf(": ret%d%d %s %s %s ;\n", i, more, times(ret, "0 >r"), x.Name, times(ret, "r> drop"))
				src += fmt.Sprintf(": out%d%d %s %s ;\n", i, more, x.Name, times(256-x.Shape.Out+more, "1"))
			}
		}
		for _, x := range wantModelled(t, src+": main ;") {
			met[x.Err]++
			most.In, most.Out = max(most.In, x.Shape.In), max(most.Out, x.Shape.Out)
			most.Data, most.Return = max(most.Data, x.Shape.Data), max(most.Return, x.Shape.Return)
		}
	}
	wantMet(t, met, fine, badDepth)
	if want := (api.Shape{In: 256, Out: 256, Data: 256, Return: 128}); most != want {
		t.Errorf("the greatest numbers of all shapes are %+v, want %+v", most, want)
	}
}

// growing is a text of words that call one another: a leaves cells, b takes some, c saves some, d lifts the stack.
func growing(r *rand.Rand) string {
	src := ": a0 1 ; : b0 drop ; : c0 >r r> ; : d0 1 2 3 2drop drop ;\n"
	for i := 1; i < 12; i++ {
		for _, n := range "abcd" {
			src += fmt.Sprintf(": %c%d ", n, i)
			for range 1 + r.Intn(3) {
				w := string(n)
				if r.Intn(10) == 0 {
					w = string("abcd"[r.Intn(4)])
				}
				saved := 0
				if n == 'c' {
					saved = r.Intn(20)
				}
				src += times(saved, "0 >r") + w + strconv.Itoa(max(0, i-1-r.Intn(2)*r.Intn(3))) + " " + times(saved, "r> drop")
			}
			src += ";\n"
		}
	}
	return src
}
