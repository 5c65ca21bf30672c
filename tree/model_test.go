package tree_test

import (
	"fmt"
	"math/rand"
	"slices"
	"strconv"
	"strings"
	"testing"

	"wisp/api"
	"wisp/sources"
	"wisp/tree"
)

// model says 10.1 once more, by one function a rule of the grammar that calls itself for what stands inside. Of its texts: no comments, and numbers in decimal digits alone.
type model struct {
	words []string
	at    []api.Pos
	end   api.Pos
	next  int
	names []string
	p     api.Program
}

// fault is what the model ends with.
type fault struct {
	e  api.Errno
	at api.Pos
}

// scanned cuts a text into its words with their places.
func scanned(src string) *model {
	m := &model{end: endOf(src)}
	line, col := 1, 1
	inside := false
	for _, b := range []byte(src) {
		blank := strings.IndexByte(" \t\r\n", b) >= 0
		if !blank && !inside {
			m.words, m.at = append(m.words, ""), append(m.at, pos(line, col))
		}
		if !blank {
			m.words[len(m.words)-1] += string(rune(b))
		}
		inside = !blank
		col++
		if b == '\n' {
			line, col = line+1, 1
		}
	}
	return m
}

func modelled(src string) (p api.Program, place api.Pos, e api.Errno) {
	m := scanned(src)
	defer func() {
		if f, is := recover().(fault); is {
			p, place, e = api.Program{}, f.at, f.e
		}
	}()
	for m.next < len(m.words) {
		m.item()
	}
	for _, d := range m.p.Defs {
		if d.Name == "main" && d.Kind == defWord {
			slices.SortFunc(m.p.Banks, func(a, b api.Bank) int { return a.Num - b.Num })
			return m.p, api.Pos{}, fine
		}
	}
	panic(fault{noMain, m.end})
}

// take gives the next word and which it is.
func (m *model) take() (string, int) {
	if m.next == len(m.words) {
		panic(fault{tooEarly, m.end})
	}
	m.next++
	return m.words[m.next-1], m.next - 1
}

func (m *model) fail(i int, e api.Errno) { panic(fault{e, m.at[i]}) }

func numberOf(w string) (int, bool) {
	n, err := strconv.Atoi(w)
	return n, err == nil && strings.Trim(w, "0123456789") == ""
}

func (m *model) item() {
	w, i := m.take()
	n, isNumber := numberOf(w)
	if !isNumber && w != ":" && w != "variable" {
		m.fail(i, badTop)
	}
	kind := w
	if isNumber {
		var j int
		kind, j = m.take()
		if kind != "constant" && kind != "buffer" && kind != "bank" {
			m.fail(j, badTop)
		}
	}
	if kind == "bank" {
		m.bank(n, i)
		return
	}
	if kind == "buffer" && n > 16384 {
		m.fail(i, badValue)
	}
	name, j := m.take()
	if _, isNumber := numberOf(name); isNumber || isOwn(name) || isPrim(name) {
		m.fail(j, badName)
	}
	if slices.Contains(m.names, name) {
		m.fail(j, twice)
	}
	d := api.Def{Name: name, Pos: m.at[j]}
	switch kind {
	case ":":
		d.Kind = defWord
		var end string
		d.Body, end, j = m.body(0, false)
		if end != ";" {
			m.fail(j, badPair)
		}
	case "variable":
		d.Kind, d.Value = defVariable, 2
	case "buffer":
		d.Kind, d.Value = defVariable, uint16(n)
	case "constant":
		d.Kind, d.Value = defConstant, uint16(n)
	}
	m.names = append(m.names, name)
	m.p.Defs = append(m.p.Defs, d)
}

func (m *model) bank(n, i int) {
	if n > 15 {
		m.fail(i, badValue)
	}
	for _, b := range m.p.Banks {
		if b.Num == n {
			m.fail(i, twice)
		}
	}
	if w, j := m.take(); w != "{" {
		m.fail(j, badPair)
	}
	b := api.Bank{Num: n}
	for {
		w, j := m.take()
		if w == "}" {
			break
		}
		x, isNumber := numberOf(w)
		if !isNumber || x > 255 || len(b.Data) == 16384 {
			m.fail(j, badValue)
		}
		b.Data = append(b.Data, byte(x))
	}
	m.p.Banks = append(m.p.Banks, b)
}

// body takes nodes up to a word that closes or turns something, and tells that word and which it is.
func (m *model) body(deep int, inDo bool) ([]api.Node, string, int) {
	var list []api.Node
	for {
		w, i := m.take()
		n := api.Node{Pos: m.at[i]}
		if x, isNumber := numberOf(w); isNumber {
			n.Kind, n.Value = nodeLit, uint16(x)
		} else if slices.Contains(closing, w) {
			return list, w, i
		} else if isPrim(w) {
			n.Kind, n.Op = nodePrim, opOf(w)
		} else if slices.Contains(m.names, w) {
			n.Kind, n.Name = nodeCall, w
		} else if w == "exit" {
			if inDo {
				m.fail(i, badLeave)
			}
			n.Kind = nodeExit
		} else if w == "if" || w == "begin" || w == "do" {
			if deep == 32 {
				m.fail(i, tooDeep)
			}
			m.structure(&n, w, deep+1, inDo || w == "do")
		} else if isOwn(w) {
			m.fail(i, badPair)
		} else {
			m.fail(i, badWord)
		}
		list = append(list, n)
	}
}

func (m *model) structure(n *api.Node, first string, deep int, inDo bool) {
	then, end, i := m.body(deep, inDo)
	n.Then = then
	second := ""
	switch first + " " + end {
	case "if then":
		n.Kind = nodeIf
	case "if else":
		n.Kind, n.Has, second = nodeIf, true, "then"
	case "begin until":
		n.Kind = nodeUntil
	case "begin again":
		n.Kind = nodeAgain
	case "begin while":
		n.Kind, second = nodeWhile, "repeat"
	case "do loop":
		n.Kind = nodeDo
	default:
		m.fail(i, badPair)
	}
	if second != "" {
		n.Else, end, i = m.body(deep, inDo)
		if end != second {
			m.fail(i, badPair)
		}
	}
}

// wantModelled holds Parse to the model, and what it answers to Check and Print.
func wantModelled(t *testing.T, src string) api.Errno {
	t.Helper()
	p, place, e := tree.Parse(src)
	q, wantPlace, want := modelled(src)
	if e != want || place != wantPlace || !equal(p, q) {
		t.Fatalf("Parse(%s) = %+v, %v, %d, want %+v, %v, %d", brief(src), p, place, e, q, wantPlace, want)
	}
	if e == fine {
		wantThereAndBack(t, p)
	}
	return e
}

// wantThereAndBack holds a program that Parse has answered to 10.5.
func wantThereAndBack(t *testing.T, p api.Program) {
	t.Helper()
	if e := tree.Check(p); e != fine {
		t.Fatalf("Check(%+v) = %d", p, e)
	}
	s, e := tree.Print(p)
	if e == tooLong && s == "" {
		return
	}
	if e != fine {
		t.Fatalf("Print(%+v) = %s, %d", p, brief(s), e)
	}
	q, _, e := tree.Parse(s)
	if e != fine || !tree.Same(p, q) || !alike(p, q) {
		t.Fatalf("Parse(%s) = %+v, %d, want %+v", brief(s), q, e, p)
	}
	if again, e := tree.Print(q); again != s || e != fine {
		t.Fatalf("Print of what was parsed of %s: %s, %d", brief(s), brief(again), e)
	}
}

// each gives every list of so many of the words.
func each(words []string, many int, do func([]string)) {
	list := make([]string, many)
	var at func(i int)
	at = func(i int) {
		if i == many {
			do(list)
			return
		}
		for _, w := range words {
			list[i] = w
			at(i + 1)
		}
	}
	at(0)
}

func TestEveryShortBody(t *testing.T) { // 10.1, 10.5
	words := strings.Fields("if else then begin until while repeat again do loop exit ; 7 dup a")
	met := map[api.Errno]int{}
	for many := range 5 {
		each(words, many, func(list []string) {
			met[wantModelled(t, ": a ; : main "+strings.Join(list, " ")+" ;")]++
		})
	}
	for _, e := range []api.Errno{fine, badPair, badLeave, badTop} {
		if met[e] == 0 {
			t.Errorf("error %d was not met: %v", e, met)
		}
	}
}

func TestEveryShortSource(t *testing.T) { // 10.1, 10.5
	words := strings.Fields(": ; constant variable buffer bank { } main a dup if 1 16 300 20000")
	met := map[api.Errno]int{}
	for many := range 5 {
		each(words, many, func(list []string) {
			met[wantModelled(t, strings.Join(list, " "))]++
		})
	}
	for _, e := range []api.Errno{fine, badTop, badName, badWord, badPair, tooEarly, badValue, noMain} {
		if met[e] == 0 {
			t.Errorf("error %d was not met: %v", e, met)
		}
	}
}

// maker makes texts that are well formed for the most part.
type maker struct {
	*rand.Rand
	words []string
	names []string
}

func (m *maker) put(words ...string) { m.words = append(m.words, words...) }

func (m *maker) one(of string) string {
	list := strings.Fields(of)
	return list[m.Intn(len(list))]
}

func (m *maker) node(deep int, inDo bool) {
	switch kind := m.Intn(12); {
	case deep > 0 && kind == 0:
		m.put("if")
		m.body(deep-1, inDo)
		if m.Intn(2) == 0 {
			m.put("else")
			m.body(deep-1, inDo)
		}
		m.put("then")
	case deep > 0 && kind == 1:
		m.put("begin")
		m.body(deep-1, inDo)
		m.put(m.one("until again"))
	case deep > 0 && kind == 2:
		m.put("begin")
		m.body(deep-1, inDo)
		m.put("while")
		m.body(deep-1, inDo)
		m.put("repeat")
	case deep > 0 && kind == 3:
		m.put("do")
		m.body(deep-1, true)
		m.put("loop")
	case kind == 4 && !inDo:
		m.put("exit")
	case kind < 7 && len(m.names) > 0:
		m.put(m.names[m.Intn(len(m.names))])
	case kind < 9:
		m.put(strconv.Itoa(m.Intn(65536)))
	default:
		m.put(m.one(primNames))
	}
}

func (m *maker) body(deep int, inDo bool) {
	for range m.Intn(5) {
		m.node(deep, inDo)
	}
}

func (m *maker) source(items int) string {
	m.words, m.names = nil, nil
	banks := m.Perm(16)
	for i := range items {
		name := m.one("n x# )) bo lit -- _ N") + strconv.Itoa(i)
		if i == items/2 {
			name = "main"
		}
		kind := m.Intn(8)
		switch {
		case kind == 0 && len(banks) > 0:
			m.put(strconv.Itoa(banks[0]), "bank", "{")
			banks = banks[1:]
			for range m.Intn(5) {
				m.put(strconv.Itoa(m.Intn(256)))
			}
			m.put("}")
			if name != "main" {
				continue
			}
			fallthrough
		case kind < 5 || name == "main":
			m.put(":", name)
			m.body(4, false)
			m.put(";")
		case kind == 5:
			m.put("variable", name)
		case kind == 6:
			m.put(strconv.Itoa(m.Intn(65536)), "constant", name)
		default:
			m.put(strconv.Itoa(m.Intn(16385)), "buffer", name)
		}
		m.names = append(m.names, name)
	}
	return m.joined()
}

// joined puts the words together with any blanks.
func (m *maker) joined() string {
	var b strings.Builder
	for _, w := range m.words {
		b.WriteString(w)
		b.WriteString([]string{" ", "\n", "\t", "\r\n", "  ", " \n "}[m.Intn(6)])
	}
	return b.String()
}

func TestAnySource(t *testing.T) { // 10.1, 10.2, 10.3, 10.5: well formed ones, and those with some words put in, taken out or changed
	m := &maker{Rand: rand.New(rand.NewSource(1010))}
	met := map[api.Errno]int{}
	for range 3000 {
		src := m.source(1 + m.Intn(8))
		if e := wantModelled(t, src); e != fine {
			t.Fatalf("the tests' own %s: %d", brief(src), e)
		}
		for range 1 + m.Intn(2) {
			with := m.one(ownWords + " " + ownWords + " dup bank main nobody 1 255 256 16384 16385 65535")
			m.words = sources.Changed(m, with, m.words...)
		}
		met[wantModelled(t, m.joined())]++
	}
	for e := badTop; e <= badLeave; e++ {
		if met[e] == 0 {
			t.Errorf("error %d was not met: %v", e, met)
		}
	}
}

func TestTheFirstFault(t *testing.T) { // 10.6: what comes behind the token that is told changes nothing
	m := &maker{Rand: rand.New(rand.NewSource(106))}
	met := map[api.Errno]int{}
	wrong := []string{"main", ": 7 ;", ": dup ;", ": a ; : a ;", ": main main ;", ": main if ;", "7 8", "1 bank { 256 }", "1 bank { x }", "1 bank x", ": main do exit", ": main " + strings.Repeat("do ", 33), ": main else"}
	for i := range 2000 {
		src := wrong[i%len(wrong)]
		if i >= len(wrong) {
			m.source(1 + m.Intn(6))
			m.words[m.Intn(len(m.words))] = m.one(ownWords + " dup bank main nobody 1 255 256 16384 16385 65535")
			src = m.joined()
		}
		_, place, e := tree.Parse(src)
		if e == fine || e == tooEarly || e == noMain {
			continue
		}
		s := scanned(src)
		k := slices.Index(s.at, place)
		if k+1 < len(s.words) && (e == badValue || e == twice) && (s.words[k+1] == "buffer" || s.words[k+1] == "bank") {
			continue
		}
		met[e]++
		lines := strings.SplitAfter(src, "\n")
		upTo := strings.Join(lines[:place.Line-1], "") + lines[place.Line-1][:place.Col-1+len(s.words[k])]
		for _, behind := range []string{" ", "\n", " ; : main ;", " } then until repeat loop ; : main ;", " buffer b", " constant x : main ;", " ( any \x00 ) 7 8", "\t\\ \x00"} {
			p, again, f := tree.Parse(upTo + behind)
			if f != e || again != place || len(p.Defs)+len(p.Banks) != 0 {
				t.Fatalf("Parse(%s): %d at %v; of %s: %d at %v", brief(src), e, place, brief(upTo+behind), f, again)
			}
		}
	}
	for _, e := range []api.Errno{badTop, badName, twice, badWord, badPair, badValue, badLeave, tooDeep} {
		if met[e] == 0 {
			t.Errorf("error %d was not met: %v", e, met)
		}
	}
}

func TestBlanksAndRemarks(t *testing.T) { // 10.7: they change nothing but places
	m := &maker{Rand: rand.New(rand.NewSource(107))}
	for range 2000 {
		m.source(1 + m.Intn(6))
		if m.Intn(3) == 0 {
			m.words[m.Intn(len(m.words))] = m.one(ownWords + " dup nobody 1 20000")
		}
		plain := strings.Join(m.words, " ")
		p, place, e := tree.Parse(plain)
		var b strings.Builder
		var begins []api.Pos
		b.WriteString(sources.Gap(m))
		for _, w := range m.words {
			begins = append(begins, endOf(b.String()))
			b.WriteString(w)
			b.WriteString(sources.Gap(m))
		}
		q, other, f := tree.Parse(b.String())
		if f != e || !tree.Same(p, q) || !alike(p, q) {
			t.Fatalf("Parse(%s) = %+v, %d; with other blanks, %s: %+v, %d", brief(plain), p, e, brief(b.String()), q, f)
		}
		want := api.Pos{}
		if k := slices.Index(scanned(plain).at, place); k >= 0 {
			want = begins[k]
		} else if e != fine {
			want = endOf(b.String())
		}
		if other != want {
			t.Fatalf("Parse(%s): error %d at %v, want it at %v", brief(b.String()), f, other, want)
		}
		if e == fine {
			wantPlacesOfWords(t, b.String(), q)
		}
	}
}

// wantPlacesOfWords holds each place of a program to the word that stands there.
func wantPlacesOfWords(t *testing.T, src string, p api.Program) {
	t.Helper()
	lines := strings.Split(src, "\n")
	stands := func(place api.Pos, w string) {
		if !strings.HasPrefix(lines[place.Line-1][place.Col-1:], w) {
			t.Fatalf("%s: at %v does not stand %q", brief(src), place, w)
		}
	}
	var look func(list []api.Node)
	look = func(list []api.Node) {
		for _, n := range list {
			stands(n.Pos, firstWord(n))
			look(n.Then)
			look(n.Else)
		}
	}
	for _, d := range p.Defs {
		stands(d.Pos, d.Name)
		look(d.Body)
	}
}

// firstWord is the word with which a node begins in a text.
func firstWord(n api.Node) string {
	switch n.Kind {
	case nodePrim:
		return allPrims[n.Op-9]
	case nodeLit:
		return strconv.Itoa(int(n.Value))
	case nodeCall:
		return n.Name
	case nodeExit:
		return "exit"
	case nodeIf:
		return "if"
	case nodeDo:
		return "do"
	}
	return "begin"
}

func TestAnyBytes(t *testing.T) { // R1: no text makes Parse panic; with an error there is a place and nothing else
	random := rand.New(rand.NewSource(1))
	words := strings.Fields(ownWords + " " + primNames + " main a b 1 20 300 16385 70000 \\ ( ) \x00 é")
	for range 20000 {
		var b strings.Builder
		for range random.Intn(12) {
			b.WriteString(words[random.Intn(len(words))])
			if random.Intn(8) > 0 {
				b.WriteString(" ")
			}
		}
		src := b.String()
		p, place, e := tree.Parse(src)
		if (e == fine) != (place == api.Pos{}) || e != fine && len(p.Defs)+len(p.Banks) != 0 {
			t.Fatalf("Parse(%q) = %+v, %v, %d", src, p, place, e)
		}
		if e == fine {
			wantThereAndBack(t, p)
		}
		if again, same, f := tree.Parse(src); f != e || same != place || !equal(again, p) {
			t.Fatalf("Parse(%q) a second time: %+v, %v, %d", src, again, same, f)
		}
	}
}

func TestManyDefinitions(t *testing.T) { // 10.1, 10.5: their number has no bound here
	var b strings.Builder
	for i := range 4000 {
		fmt.Fprintf(&b, ": w%d ; ", i)
	}
	p := taken(t, b.String()+": main w0 w3999 ;")
	if len(p.Defs) != 4001 {
		t.Errorf("%d definitions", len(p.Defs))
	}
	wantThereAndBack(t, p)
	wantError(t, b.String()+": w17 ;", 1, len(b.String())+3, twice)
}
