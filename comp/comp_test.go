package comp_test

import (
	"bytes"
	"hash/crc32"
	"slices"
	"strconv"
	"strings"
	"testing"

	"wisp/api"
	"wisp/cart"
	"wisp/comp"
	"wisp/emit"
	"wisp/layout"
	"wisp/tree"
)

// The errors and limits by the document's numbers, not by api's names: a slip in one of the two must show.
const (
	fine      = api.Errno(0)
	noCell    = api.Errno(21)
	longText  = api.Errno(90)
	badByte   = api.Errno(91)
	stillOpen = api.Errno(92)
	tooWide   = api.Errno(93)
	badTop    = api.Errno(100)
	badName   = api.Errno(101)
	badTwice  = api.Errno(102)
	badWord   = api.Errno(103)
	badPair   = api.Errno(104)
	tooEarly  = api.Errno(105)
	badValue  = api.Errno(106)
	noMain    = api.Errno(107)
	badLeave  = api.Errno(108)
	tooDeep   = api.Errno(109)
	tooMany   = api.Errno(110)
	longCode  = api.Errno(111)
	greatRam  = api.Errno(112)
	maxSource = 65536
)

func place(line, col int) api.Pos { return api.Pos{Line: line, Col: col} }

// many is a word so many times, each with a blank behind it.
func many(n int, word string) string { return strings.Repeat(word+" ", n) }

// wantRefused holds Compile to an error at a place, and to nothing else; and Well to the same, or, of an error of the room, to none.
func wantRefused(t *testing.T, src string, at api.Pos, e api.Errno) {
	t.Helper()
	b, pos, f := comp.Compile(src)
	if f != e || pos != at || len(b) != 0 {
		t.Fatalf("14.2: Compile(%.300q): %d bytes, %d at %v; want %d at %v and nothing else", src, len(b), f, pos, e, at)
	}
	if e >= tooMany {
		at, e = api.Pos{}, fine
	}
	if pos, f := comp.Well(src); f != e || pos != at {
		t.Fatalf("14.1: Well(%.300q): %d at %v; want %d at %v", src, f, pos, e, at)
	}
}

// wantImage holds both calls to a source that has no error, and tells its bytes and their cartridge.
func wantImage(t *testing.T, src string) ([]byte, api.Cart) {
	t.Helper()
	b, pos, e := comp.Compile(src)
	if e != fine || pos != (api.Pos{}) {
		t.Fatalf("14.2: Compile(%.300q): %d at %v", src, e, pos)
	}
	if pos, e := comp.Well(src); e != fine || pos != (api.Pos{}) {
		t.Fatalf("14.1: Well(%.300q): %d at %v", src, e, pos)
	}
	c, e := cart.Decode(b)
	if e != fine {
		t.Fatalf("14.3: %.300q: cart.Decode says %d of %d bytes", src, e, len(b))
	}
	wantOfProgram(t, src, b, c)
	return b, c
}

// wantOfProgram holds a source's bytes and their cartridge to the program that Parse tells.
func wantOfProgram(t *testing.T, src string, b []byte, c api.Cart) {
	t.Helper()
	p, _, e := tree.Parse(src)
	want, f := emit.Cart(p)
	places, code, _, _, g := layout.Of(p)
	if e != fine || f != fine || g != fine {
		t.Fatalf("14.3: %.300q has bytes, but %d, %d, %d", src, e, f, g)
	}
	main := slices.IndexFunc(places, func(x layout.Place) bool { return x.Name == "main" })
	if len(c.Code) != code || c.Entry != places[main].At {
		t.Fatalf("14.3: %.300q: %d bytes of code, Entry %d; want %d and %d", src, len(c.Code), c.Entry, code, places[main].At)
	}
	if !slices.EqualFunc(c.Banks, p.Banks, sameBank) {
		t.Fatalf("14.3: %.300q: banks %.200v, want %.200v", src, c.Banks, p.Banks)
	}
	if !bytes.Equal(c.Code, want.Code) || c.Entry != want.Entry || !slices.Equal(c.Effects, want.Effects) || !slices.EqualFunc(c.Banks, want.Banks, sameBank) {
		t.Fatalf("14.2: %.300q: %v, emit.Cart says %v", src, c, want)
	}
	if image, e := cart.Encode(want); e != fine || !bytes.Equal(b, image) {
		t.Fatalf("14.2: %.300q: %v, cart.Encode says %v, %d", src, b, image, e)
	}
}

func sameBank(a, b api.Bank) bool { return a.Num == b.Num && bytes.Equal(a.Data, b.Data) }

func TestExample1(t *testing.T) { // 14.2: byte by byte
	b, c := wantImage(t, ": main ;")
	want := []byte{'W', 'I', 'S', 'P', 1, 2, 128, 0, 1, 0, 28, 0, 0, 0, 132, 0, 0, 0, 2, 0, 160, 0, 0, 0, 6, 0, 0, 0}
	for k := range 64 {
		want = append(want, byte(k), 0)
	}
	want = append(want, 1, 0, 16, 0, 128, 0, 0, 0, 0, 0)
	sum := crc32.ChecksumIEEE(want)
	want = append(want, byte(sum), byte(sum>>8), byte(sum>>16), byte(sum>>24))
	if !bytes.Equal(b, want) {
		t.Errorf("%v, want %v", b, want)
	}
	if len(c.Code) != 132 || c.Entry != 128 || !slices.Equal(c.Effects, []api.Effect{{At: 128}}) || len(c.Banks) != 0 {
		t.Errorf("%v", c)
	}
}

func TestExample2(t *testing.T) { // 14.1, 14.2
	wantRefused(t, "", place(1, 1), noMain)
	wantRefused(t, ": main", place(1, 7), tooEarly)
	wantRefused(t, ": main nobody ;", place(1, 8), badWord)
}

func TestExample3(t *testing.T) { // 14.1, 14.2
	wantRefused(t, ": long "+many(8127, "dup")+"; : main ;", place(1, 3), longCode)
}

// wrong is a text that is not well formed: items that may not stand where items stand; main comes ahead of them, or behind them.
type wrong struct {
	src string
	at  api.Pos
	e   api.Errno
}

func wrongs() []wrong {
	return []wrong{
		{"70000", place(1, 1), noCell},
		{": w\n -32769 ;", place(2, 2), noCell},
		{"$10000 constant k", place(1, 1), noCell},
		{"variable %11111111111111111", place(1, 10), noCell},
		{"\xc3\xa9", place(1, 1), badByte},
		{": w dup\x00 ;", place(1, 8), badByte},
		{"\n\x7f", place(2, 1), badByte},
		{": " + strings.Repeat("w", 32) + " ;", place(1, 3), tooWide},
		{strings.Repeat("0", 32) + " constant k", place(1, 1), tooWide},
		{"dup", place(1, 1), badTop},
		{"7 8", place(1, 3), badTop},
		{"7\nvariable v", place(2, 1), badTop},
		{": 7 ;", place(1, 3), badName},
		{": if ;", place(1, 3), badName},
		{"1 constant dup", place(1, 12), badName},
		{"variable ;", place(1, 10), badName},
		{"9 buffer :", place(1, 10), badName},
		{": w ;\n: w ;", place(2, 3), badTwice},
		{": w ; 1 constant w", place(1, 18), badTwice},
		{"1 bank { } 1 bank { }", place(1, 12), badTwice},
		{": w nobody ;", place(1, 5), badWord},
		{": w w ;", place(1, 5), badWord},
		{": w later ; : later ;", place(1, 5), badWord},
		{": w if ;", place(1, 8), badPair},
		{": w else ;", place(1, 5), badPair},
		{": w\nbegin\nwhile\nuntil ;", place(4, 1), badPair},
		{": w do then ;", place(1, 8), badPair},
		{": w : x ;", place(1, 5), badPair},
		{"1 bank 2", place(1, 8), badPair},
		{"16385 buffer b", place(1, 1), badValue},
		{"16 bank { }", place(1, 1), badValue},
		{"1 bank { 256 }", place(1, 10), badValue},
		{"1 bank { x }", place(1, 10), badValue},
		{": w 3 0 do if exit then loop ;", place(1, 15), badLeave},
		{": w " + many(33, "if"), place(1, 5+3*32), tooDeep},
	}
}

func TestErrorsOfTheForm(t *testing.T) { // 14.1, 14.2: each, with its place, wherever it stands
	for _, w := range wrongs() {
		wantRefused(t, w.src, w.at, w.e)
		for _, ahead := range []string{": main ;", "\\ a line\n ( remark\n) : main ;\n", "\n\n"} {
			wantRefused(t, ahead+" "+w.src+" : main ;", behind(ahead+" ", w.at), w.e)
		}
	}
	for _, src := range []string{": main ; ( x", ": main ;\n( x\n\n", "( a ) ( : main ;"} {
		at := strings.LastIndexByte(src, '(')
		wantRefused(t, src, behind(src[:at], place(1, 1)), stillOpen)
	}
	for _, src := range []string{"7", ": main ; 7", ":", ": main ; : x", ": main ; : x if 1 then", "1 constant", "variable", "4 buffer", "3 bank", "3 bank {", "3 bank { 7 8", ": main ;\n3 bank { ( } )\n"} {
		wantRefused(t, src, behind(src, place(1, 1)), tooEarly)
	}
	for _, src := range []string{"", " \n ", "\\ : main ;", ": Main ;", "1 constant main", "variable main", "3 bank { 1 } : a ;\n", strings.Repeat(" ", maxSource)} {
		wantRefused(t, src, behind(src, place(1, 1)), noMain)
	}
	for _, src := range []string{strings.Repeat(" ", maxSource+1), ": main ; \\" + strings.Repeat(" ", maxSource), strings.Repeat("\x00", maxSource+1), strings.Repeat("( ", 1<<22)} {
		wantRefused(t, src, place(1, 1), longText)
	}
}

// behind is where a place comes to lie if that text stands ahead of it.
func behind(ahead string, at api.Pos) api.Pos {
	lines := strings.Split(ahead, "\n")
	if at.Line == 1 {
		at.Col += len(lines[len(lines)-1])
	}
	at.Line += len(lines) - 1
	return at
}

func TestEachErrorOfTheForm(t *testing.T) { // 14.1: the texts of the tests meet each
	met := map[api.Errno]int{}
	for _, w := range wrongs() {
		met[w.e]++
	}
	for _, e := range []api.Errno{noCell, badByte, tooWide, badTop, badName, badTwice, badWord, badPair, badValue, badLeave, tooDeep} {
		if met[e] == 0 {
			t.Errorf("%d is not among them", e)
		}
	}
}

// full is definitions without room, main among them; those that are wrong have other names.
type full struct {
	src string
	at  api.Pos
	e   api.Errno
}

// constants is so many lines.
func constants(n int) string {
	var b strings.Builder
	for i := range n {
		b.WriteString("1 constant k" + strconv.Itoa(i) + "\n")
	}
	return b.String()
}

func fulls() []full {
	return []full{
		{constants(512) + ": main ;", place(513, 3), tooMany},
		{": main ;\n" + constants(512), place(513, 12), tooMany},
		{": main ;\n" + constants(1000), place(513, 12), tooMany},
		{": main " + many(8127, "dup") + ";", place(1, 3), longCode},
		{": q " + many(8127, "dup") + "; : main ;", place(1, 3), longCode},
		{": main ;\n\n: q " + many(8125, "dup") + ";", place(3, 3), longCode},
		{": main " + many(8125, "dup") + ";\n 1 constant y", place(2, 13), longCode},
		{": main " + many(8125, "dup") + ";\nvariable s variable u", place(2, 10), longCode},
		{": main " + many(4064, "7") + ";", place(1, 3), longCode},
		{"16384 buffer a variable e : main ;", place(1, 25), greatRam},
		{"16384 buffer a 0 buffer n 1 buffer e : main ;", place(1, 36), greatRam},
		{": main ;\n16000 buffer a\n382 buffer e\nvariable c\nvariable d", place(5, 10), greatRam},
		{"10000 buffer a : main ; 10000 buffer e 16384 buffer c", place(1, 38), greatRam},
	}
}

func TestErrorsOfTheRoom(t *testing.T) { // 14.1, 14.2: each, with its place; Well says OK
	for _, f := range fulls() {
		wantRefused(t, f.src, f.at, f.e)
		wantRefused(t, "( a\nremark )\n"+f.src+"\n\n3 bank { 1 }", place(f.at.Line+2, f.at.Col), f.e)
	}
	for _, src := range []string{
		constants(511) + ": main ;",
		": main " + many(8126, "dup") + ";",
		": w " + many(8124, "dup") + "; : main ;",
		": main " + many(8124, "dup") + "; 1 constant k",
		": main " + many(4063, "7") + ";",
		"16384 buffer a 0 buffer n : main ;",
		"16382 buffer a variable v : main ;",
	} {
		wantImage(t, src)
	}
}

func TestWhichOfTheRoom(t *testing.T) { // 14.2: the first definition without room, and of it the first limit
	long, wide := ": w "+many(8127, "dup")+";\n", "16384 buffer a variable b\n"
	wantRefused(t, long+wide+": main ;", place(1, 3), longCode)
	wantRefused(t, wide+long+": main ;", place(1, 25), greatRam)
	wantRefused(t, wide+": main ;\n"+constants(600), place(1, 25), greatRam)
	wantRefused(t, ": main ;\n"+constants(600)+wide+long, place(513, 12), tooMany)
	wantRefused(t, ": main ;\n"+constants(511)+long, place(513, 3), tooMany)
	wantRefused(t, ": main ;\n16384 buffer a\n"+constants(510)+"variable v", place(513, 10), tooMany)
	wantRefused(t, "16384 buffer a : main "+many(8123, "dup")+";\nvariable v", place(2, 10), longCode)
	wantRefused(t, "16384 buffer a : main "+many(8122, "dup")+"; variable v", place(1, 22+4*8122+12), greatRam)
}

func TestFormAheadOfRoom(t *testing.T) { // 14.2: where both are there, the error of the form is told, wherever it stands
	for i, f := range fulls() {
		if i%3 > 0 { // of each limit there is one left
			continue
		}
		for _, w := range wrongs() {
			wantRefused(t, f.src+"\n"+w.src, behind(f.src+"\n", w.at), w.e)
			wantRefused(t, w.src+"\n"+f.src, w.at, w.e)
		}
		noneNow := strings.Replace(f.src, "main", "Main", 1)
		wantRefused(t, noneNow, behind(noneNow, place(1, 1)), noMain)
		wantRefused(t, f.src+" ( x", behind(f.src+" ", place(1, 1)), stillOpen)
		wantRefused(t, f.src+" 7", behind(f.src+" 7", place(1, 1)), tooEarly)
		wantRefused(t, f.src+strings.Repeat(" ", maxSource), place(1, 1), longText)
	}
}
