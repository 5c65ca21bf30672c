package comp_test

import (
	"bytes"
	"math/rand"
	"slices"
	"strconv"
	"strings"
	"testing"

	"wisp/api"
	"wisp/cart"
	"wisp/comp"
	"wisp/layout"
	"wisp/sources"
	"wisp/spare"
	"wisp/tree"
	"wisp/vm"
)

func makerOf(seed int64) *sources.Maker { return sources.New(rand.New(rand.NewSource(seed))) }

// reserved are the words that are no names, but for those of primitives.
const reserved = ": ; constant variable buffer { } if else then begin until while repeat again do loop exit"

// broken is a source with some of its words changed, or with others put in; few are well formed still.
func broken(m *sources.Maker) string {
	words := strings.Fields(m.Some())
	with := strings.Fields(reserved + " " + reserved + " dup bank main n0 n1 nobody 1 255 256 16384 16385 65535 70000 -32769 \x00 é ( \\ " + strings.Repeat("w", 32))
	for range 1 + m.Intn(2) {
		words = sources.Changed(m, with[m.Intn(len(with))], words...)
	}
	return sources.Dressed(m, words...)
}

func TestAnyProgram(t *testing.T) { // 14.2, 14.3: its cells, its entry and its banks
	m := makerOf(1401)
	banks := 0
	for range 1000 {
		src := m.Some()
		_, c := wantImage(t, src)
		code, at, is := m.Code()
		if !is || !bytes.Equal(c.Code, code) || int(c.Entry) != at["main"] {
			t.Fatalf("14.3: %s: %v, Entry %d; want %v, %d", src, c.Code, c.Entry, code, at["main"])
		}
		banks += len(c.Banks)
	}
	if banks < 500 {
		t.Errorf("%d banks", banks)
	}
}

func TestBanks(t *testing.T) { // 14.3: the source's, whatever their order, none, empty and full
	for src, want := range map[string][]api.Bank{
		": main ;":                          nil,
		"15 bank { } : main ; 0 bank { 0 }": {{Num: 0, Data: []byte{0}}, {Num: 15}},
		"7 bank { 1 255 } : main ; 3 bank { $ff %1 'a' -0 }": {{Num: 3, Data: []byte{255, 1, 97, 0}}, {Num: 7, Data: []byte{1, 255}}},
		": main ; 9 bank { " + many(16384, "9") + "}":        {{Num: 9, Data: bytes.Repeat([]byte{9}, 16384)}},
	} {
		if _, c := wantImage(t, src); !slices.EqualFunc(c.Banks, want, sameBank) {
			t.Errorf("%.100s: %.100v, want %.100v", src, c.Banks, want)
		}
	}
	wantRefused(t, ": main ; 9 bank { "+many(16385, "9")+"}", place(1, 19+2*16384), badValue)
}

func TestAnyText(t *testing.T) { // 14.1 to 14.3: bytes just if it is well formed; else Parse's error and its place
	m := makerOf(1402)
	met := map[api.Errno]int{}
	for range 3000 {
		src := broken(m)
		_, at, e := tree.Parse(src)
		met[e]++
		if e == fine {
			wantImage(t, src)
		} else {
			wantRefused(t, src, at, e)
		}
	}
	for _, e := range []api.Errno{fine, noCell, badByte, stillOpen, tooWide, badTop, badName, badTwice, badWord, badPair, tooEarly, badValue, badLeave} {
		if met[e] == 0 {
			t.Errorf("%d was not met", e)
		}
	}
}

// ledger writes definitions, one a line, and reckons the room that they need.
type ledger struct {
	text             strings.Builder
	words, code, ram int
	at               api.Pos
	e                api.Errno // of the first definition without room
}

// put writes a definition whose name stands behind that text.
func (l *ledger) put(ahead, behind string, code, ram int) {
	l.words, l.code, l.ram = l.words+1, l.code+code, l.ram+ram
	at := place(l.words, len(ahead)+1)
	switch {
	case l.e != fine:
	case l.words > 512:
		l.at, l.e = at, tooMany
	case l.code > 16384:
		l.at, l.e = at, longCode
	case l.ram > 16384:
		l.at, l.e = at, greatRam
	}
	l.text.WriteString(ahead + "n" + strconv.Itoa(l.words) + behind + "\n")
}

func (l *ledger) some(m *sources.Maker, nodes, bytes int) {
	switch m.Intn(4) {
	case 0:
		l.put(strconv.Itoa(m.Intn(65536))+" constant ", "", 4, 0)
	case 1:
		l.put("variable ", "", 4, 2)
	case 2:
		n := m.Intn(bytes + 1)
		l.put(strconv.Itoa(n)+" buffer ", "", 4, n)
	default:
		n, k := m.Intn(nodes+1), m.Intn(nodes+1)
		l.put(": ", " "+many(n, "+")+many(k, "5")+";", 4+2*n+4*k, 0)
	}
}

func TestAnyRoom(t *testing.T) { // 14.2, 14.3: bytes just if there is room; else the limit that is passed first, and where
	m := makerOf(1403)
	met := map[api.Errno]int{}
	for range 300 {
		size := []struct{ defs, nodes, bytes int }{{20, 30, 100}, {60, 900, 10}, {1100, 5, 20}, {40, 5, 6000}, {200, 25, 300}, {4, 4, 16384}}[m.Intn(6)]
		var l ledger
		l.code = 128
		for range m.Intn(size.defs + 1) {
			l.some(m, size.nodes, size.bytes)
		}
		src := l.text.String()
		if l.e == fine { // main may be what passes
			l.put(": ", " ;", 4, 0)
		}
		src += ": main ;\n"
		met[l.e]++
		if l.e == fine {
			wantImage(t, src)
		} else {
			wantRefused(t, src, l.at, l.e)
		}
	}
	for _, e := range []api.Errno{fine, tooMany, longCode, greatRam} {
		if met[e] < 20 {
			t.Errorf("%d was met %d times", e, met[e])
		}
	}
}

func TestUntypableProgramsAreCompiled(t *testing.T) { // 14.2: whatever a program does to the stacks
	for _, src := range []string{": main drop ;", ": main 1 ;", ": main r> ;", ": main if 1 then ;", ": main begin 1 again ;", ": a >r ; : main a ;", ": main j ;", ": main " + many(300, "1") + ";"} {
		wantImage(t, src)
	}
}

func TestBesideWords(t *testing.T) { // 14.4: blanks, line ends and comments of both kinds
	m := makerOf(1404)
	for range 500 {
		words := strings.Fields(m.Some())
		want, _ := wantImage(t, strings.Join(words, " "))
		for _, src := range []string{sources.Dressed(m, words...), sources.Dressed(m, words...), strings.Join(words, "\n"), strings.Join(words, "\r\n\t"), strings.Join(words, " (\n)"), strings.Join(words, "\n\\ dup ;\n"), strings.Join(words, " \\\n") + " \\", strings.Join(words, " ( \\ )( ( ) ")} {
			if got, _ := wantImage(t, src); !bytes.Equal(got, want) {
				t.Fatalf("14.4: %q: %v; %q: %v", words, want, src, got)
			}
		}
	}
	// Up to the last byte that a source may have.
	want, _ := wantImage(t, ": main ;")
	for _, src := range []string{": main ;" + strings.Repeat("\n", maxSource-8), strings.Repeat("\t", maxSource-8) + ": main ;", "( " + strings.Repeat("\xff", maxSource-11) + "): main ;", ": main ; \\" + strings.Repeat("x ", maxSource)[1:maxSource-9]} {
		if got, _ := wantImage(t, src); len(src) != maxSource || !bytes.Equal(got, want) {
			t.Errorf("14.4: %.30q of %d bytes: %v", src, len(src), got)
		}
		wantRefused(t, src+" ", place(1, 1), longText)
	}
}

func TestBesideWrongWords(t *testing.T) { // 14.4: the error is the same too, at the word's new place
	m := makerOf(1405)
	for _, w := range wrongs() {
		words := strings.Fields(w.src)
		_, _, e := comp.Compile(strings.Join(words, " "))
		for range 20 {
			src := sources.Dressed(m, words...)
			_, at, _ := tree.Parse(src)
			if e != w.e {
				t.Fatalf("the tests' own %q: %d, want %d", words, e, w.e)
			}
			wantRefused(t, src, at, e)
		}
	}
}

func TestWordsThatSayTheSame(t *testing.T) { // 14.2: numerals in another form, other names: the same bytes
	want, _ := wantImage(t, "97 constant k variable v 2 buffer b : sq dup * ; : main k sq 65535 5 v ! ; 10 bank { 255 0 }")
	for _, src := range []string{
		"'a' constant k variable v 2 buffer b : sq dup * ; : main k sq -1 %101 v ! ; $a bank { $ff -0 }",
		"$61 constant k 2 buffer v variable b : sq dup * ; : main k sq $ffff 005 v ! ; 10 bank { 255 0 }",
		"97 constant x variable y 2 buffer z : (square) dup * ; : main x (square) 65535 5 y ! ; 10 bank { 255 0 }",
		"10 bank { 255 0 } 97 constant k variable v 2 buffer b : sq dup * ; : main k sq 65535 5 v ! ;",
	} {
		if got, _ := wantImage(t, src); !bytes.Equal(got, want) {
			t.Errorf("%s: %v, want %v", src, got, want)
		}
	}
}

// wantPrinted holds a source to 14.5, and tells the length of what is printed of it, or 0 if that is too long.
func wantPrinted(t *testing.T, src string) int {
	t.Helper()
	want, _ := wantImage(t, src)
	p, _, _ := tree.Parse(src)
	text, e := tree.Print(p)
	if e != fine {
		return 0
	}
	if got, _ := wantImage(t, text); !bytes.Equal(got, want) {
		t.Fatalf("14.5: %.300s: %v; printed, %.300s: %v", src, want, text, got)
	}
	return len(text)
}

func TestPrinted(t *testing.T) { // 14.5
	m := makerOf(1406)
	for range 600 {
		if src := sources.Dressed(m, strings.Fields(m.Some())...); wantPrinted(t, src) == 0 {
			t.Fatalf("%s is not printed", src)
		}
	}
}

// longer is a source, and what is printed of it, by hand: so many bytes.
func longer(printed int) (src, text string) {
	left := printed - len(": main "+many(4000, "65535")+";\n0 bank { }\n")
	data := []string{"", "7 10 ", "7 ", "10 "}[left%4]
	data += many((left-len(data))/4, "255")
	return ": main " + many(4000, "-1") + ";\n0 bank { " + data + "}\n", ": main " + many(4000, "65535") + ";\n0 bank { " + data + "}\n"
}

func TestPrintedLonger(t *testing.T) { // 14.5: what is printed may be longer than the source, and longer than one may be
	for _, size := range []int{60000, 60001, 60002, 60003, maxSource - 1, maxSource, maxSource + 1, maxSource + 2, 70000} {
		src, text := longer(size)
		if len(text) != size || len(src) != size-12000 {
			t.Fatalf("the tests' own: %d and %d bytes", len(src), len(text))
		}
		if size <= maxSource {
			if got := wantPrinted(t, src); got != size {
				t.Errorf("%d bytes are printed, want %d", got, size)
			}
			continue
		}
		if got := wantPrinted(t, src); got != 0 {
			t.Errorf("%d bytes are printed", got)
		}
		wantRefused(t, text, place(1, 1), longText)
	}
}

func TestACompiledSourceRuns(t *testing.T) { // 14.2: its bytes are those of a cartridge that layer 8 plays
	_, c := wantImage(t, "7 constant k : sq dup * ; 5 buffer b variable v\n: main 3 bank $4001 c@ v ! k sq v +! 0 if 1 v ! then ;\n3 bank { 1 200 }")
	machine, e := vm.New(c)
	if e != fine {
		t.Fatal(e)
	}
	out, _ := machine.Frame(0, 1000)
	if got := machine.Memory().Cell(0x8005); out.Status != 2 || got != 249 {
		t.Errorf("status %d, fault %d, v is %d", out.Status, out.Fault, got)
	}
}

func TestWhatIsHandedOutIsApart(t *testing.T) { // R3, R5: it may be written over, its room too
	m := makerOf(1407)
	for range 300 {
		src, other := m.Some(), m.Some()
		first, _, _ := comp.Compile(src)
		want := slices.Clone(first)
		between, _, _ := comp.Compile(other)
		kept := slices.Clone(between)
		second, _, _ := comp.Compile(src)
		spare.Over(first, 99)
		// Ahead of a call more, which could put right again what two answers share.
		if !bytes.Equal(second, want) || !bytes.Equal(between, kept) {
			t.Fatalf("%s: with one answer written over another is %v, want %v", src, second, want)
		}
		if third, _ := wantImage(t, src); !bytes.Equal(third, want) {
			t.Fatalf("%s: behind an answer that was written over: %v, want %v", src, third, want)
		}
	}
}

// answer is all that both calls tell.
type answer struct {
	image      string
	at, wellAt api.Pos
	e, well    api.Errno
}

func answerOf(src string) answer {
	b, at, e := comp.Compile(src)
	wellAt, well := comp.Well(src)
	return answer{string(b), at, wellAt, e, well}
}

func TestCallsDoNotHangOnOthers(t *testing.T) { // R5: whatever was compiled ahead, with errors too
	m := makerOf(1408)
	var texts []string
	for i := range 50 {
		texts = append(texts, m.Some(), broken(m), fulls()[i%len(fulls())].src)
	}
	var first []answer
	for _, src := range texts {
		first = append(first, answerOf(src))
	}
	for i := len(texts) - 1; i >= 0; i-- {
		if again := answerOf(texts[i]); again != first[i] {
			t.Fatalf("%.300q: %v, and at another time %v", texts[i], first[i], again)
		}
	}
}

// wantWhole holds both calls to what is said of every text.
func wantWhole(t *testing.T, src string) api.Errno {
	t.Helper()
	a := answerOf(src)
	p, at, e := tree.Parse(src)
	if a.well != e || a.wellAt != at || (a.well == fine) != (a.wellAt == api.Pos{}) {
		t.Fatalf("14.1: Well(%.300q): %d at %v", src, a.well, a.wellAt)
	}
	if e == fine {
		_, _, _, at, e = layout.Of(p)
	}
	if a.e != e || a.at != at || (a.image == "") == (e == fine) {
		t.Fatalf("14.2: Compile(%.300q): %d bytes, %d at %v; want %d at %v", src, len(a.image), a.e, a.at, e, at)
	}
	if _, f := cart.Decode([]byte(a.image)); e == fine && f != fine {
		t.Fatalf("14.3: %.300q: cart.Decode says %d", src, f)
	}
	return e
}

func TestAnyBytes(t *testing.T) { // R1, 14.3: of every text
	r := rand.New(rand.NewSource(1409))
	words := strings.Fields(reserved + " " + sources.Primitives + " main main : : ; ; a b 1 20 300 16385 70000 \\ ( ) \x00 é")
	met := map[api.Errno]int{}
	for range 20000 {
		var b strings.Builder
		for range r.Intn(12) {
			b.WriteString(words[r.Intn(len(words))])
			if r.Intn(8) > 0 {
				b.WriteByte(" \n\t\r"[r.Intn(4)])
			}
		}
		met[wantWhole(t, b.String())]++
		noise := make([]byte, r.Intn(30))
		for i := range noise {
			noise[i] = byte(r.Intn(256))
		}
		wantWhole(t, string(noise))
		wantWhole(t, ": main "+b.String()+" ;")
	}
	if len(met) < 9 {
		t.Errorf("%v", met)
	}
}

func TestLargeTexts(t *testing.T) { // R1: every call ends, in a time that the size bears
	wide := "( " + strings.Repeat("x", 1<<24) + " ) : main ;"
	if e := wantWhole(t, wide); e != longText {
		t.Errorf("%d", e)
	}
	for _, word := range []string{"if", "do", ":", "dup", "7", "main", "(", "\\", "begin begin while", "variable a", ": a ;", "70000", "\x00"} {
		wantWhole(t, many(maxSource/(len(word)+1), word))
		wantWhole(t, ": main "+many((maxSource-10)/(len(word)+1), word)+"; ")
	}
	var names strings.Builder
	for i := range 511 { // each calls the one ahead of it eight times: what it comes to is far more than what it says
		names.WriteString(": n" + strconv.Itoa(i) + " " + many(8, "n"+strconv.Itoa(max(0, i-1))) + "; ")
	}
	if e := wantWhole(t, strings.Replace(names.String(), many(8, "n0"), "", 1)+": main n510 ;"); e != fine {
		t.Errorf("%d", e)
	}
}
