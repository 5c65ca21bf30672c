package emit_test

import (
	"bytes"
	"math/rand"
	"slices"
	"strconv"
	"strings"
	"testing"

	"wisp/api"
	"wisp/cart"
	"wisp/emit"
	"wisp/layout"
	"wisp/sources"
	"wisp/tree"
	"wisp/trees"
)

// The errors, kinds and limits by the document's numbers, not by api's names: a slip in one of the two must show.
const (
	fine      = api.Errno(0)
	badMain   = api.Errno(107)
	badDeep   = api.Errno(109)
	tooMany   = api.Errno(110)
	tooLong   = api.Errno(111)
	nodeUntil = 5
	nodeAgain = 7
	nodeDo    = 8
	nop       = 9
)

// first are the bytes of the cells that stand ahead of all definitions.
func first() []byte {
	var b []byte
	for k := range 64 {
		b = append(b, byte(k), 0)
	}
	return b
}

// wantBytes holds a program's code, and that of its cartridge, to these bytes; and the cartridge to what holds of all.
func wantBytes(t *testing.T, what string, p api.Program, want []byte) {
	t.Helper()
	got, e := emit.Code(p)
	c, f := emit.Cart(p)
	if e != fine || f != fine || !bytes.Equal(got, want) || !bytes.Equal(c.Code, want) {
		from := 0
		for from < min(len(got), len(want)) && got[from] == want[from] {
			from++
		}
		t.Fatalf("13.1: %.300s: %d, %d; from %d on %v, and in the cartridge %v; want %v", what, e, f, from, pieceOf(got, from), pieceOf(c.Code, from), pieceOf(want, from))
	}
	wantHeld(t, what, p, c)
}

func pieceOf(b []byte, from int) []byte { return b[min(from, len(b)):min(from+20, len(b))] }

// wantHeld holds a program's cartridge to 13.3 and 13.4, as far as they are said without its effects.
func wantHeld(t *testing.T, what string, p api.Program, c api.Cart) {
	t.Helper()
	if e := cart.Check(c); e != fine {
		t.Fatalf("13.3: %.300s: cart.Check says %d", what, e)
	}
	places, size, _, _, e := layout.Of(p)
	if e != fine || len(c.Code) != size {
		t.Fatalf("13.4: %.300s: %d bytes; layout.Of says %d, %d", what, len(c.Code), size, e)
	}
	for i, x := range places {
		field := int(c.Code[x.At]) + 256*int(c.Code[x.At+1])
		if want := min(p.Defs[i].Kind, 2); field != want {
			t.Fatalf("13.4: %.300s: %s: the cell at %d is %d, want %d", what, x.Name, x.At, field, want)
		}
		if x.Name == "main" && c.Entry != x.At {
			t.Fatalf("13.3: %.300s: Entry is %d, main lies at %d", what, c.Entry, x.At)
		}
	}
	if len(c.Banks) != len(p.Banks) {
		t.Fatalf("13.3: %.300s: %d banks, want %d", what, len(c.Banks), len(p.Banks))
	}
	for i, b := range p.Banks {
		if c.Banks[i].Num != b.Num || !bytes.Equal(c.Banks[i].Data, b.Data) {
			t.Fatalf("13.3: %.300s: bank %d is %d, %.50v", what, i, c.Banks[i].Num, c.Banks[i].Data)
		}
	}
}

// wantCells holds a source's definitions to cells, those behind the first 64.
func wantCells(t *testing.T, src string, cells ...uint16) {
	t.Helper()
	want := first()
	for _, x := range cells {
		want = append(want, byte(x%256), byte(x/256))
	}
	wantBytes(t, src, taken(t, src), want)
}

// taken is the program of a text.
func taken(t *testing.T, src string) api.Program {
	t.Helper()
	p, at, e := tree.Parse(src)
	if e != fine {
		t.Fatalf("the tests' own %.300q: %d at %v", src, e, at)
	}
	return p
}

func makerOf(seed int64) *sources.Maker { return sources.New(rand.New(rand.NewSource(seed))) }

// cellsOf is the code of what a writer has written, by the tests' own cells.
func cellsOf(t *testing.T, w *sources.Writer) []byte {
	t.Helper()
	code, _, is := w.Code()
	if !is {
		t.Fatalf("the tests' own %s: what is no cell", w.Source())
	}
	return code
}

// wantWritten holds what a writer has written to the tests' own cells.
func wantWritten(t *testing.T, w *sources.Writer) {
	t.Helper()
	wantBytes(t, w.Source(), taken(t, w.Source()), cellsOf(t, w))
}

// wantBody holds a body, behind few definitions and behind many, to the tests' own cells.
func wantBody(t *testing.T, body sources.Part) {
	t.Helper()
	for _, ahead := range []int{0, 3, 70} {
		var w sources.Writer
		w.Word("a")
		for i := range ahead {
			w.Constant("k"+strconv.Itoa(i), uint16(i))
		}
		w.Word("main", body)
		wantWritten(t, &w)
	}
}

func wantEffects(t *testing.T, src string, entry uint16, want ...api.Effect) {
	t.Helper()
	p := taken(t, src)
	c, e := emit.Cart(p)
	if e != fine || c.Entry != entry || !slices.Equal(c.Effects, want) {
		t.Errorf("13.3: %.300s: %d, Entry %d, Effects %v; want %d, %v", src, e, c.Entry, c.Effects, entry, want)
		return
	}
	wantHeld(t, src, p, c)
}

// wantError holds both calls to an error, and to nothing else.
func wantError(t *testing.T, what string, want api.Errno, p api.Program) {
	t.Helper()
	b, e := emit.Code(p)
	c, f := emit.Cart(p)
	if e != want || f != want || len(b) != 0 || len(c.Code) != 0 || c.Entry != 0 || len(c.Effects) != 0 || len(c.Banks) != 0 {
		t.Errorf("%s: %d bytes, %d; %.200v, %d; want %d and nothing else", what, len(b), e, c, f, want)
	}
}

func TestExample1(t *testing.T) { // 13.1, 13.3
	wantCells(t, ": main ;", 1, 16)
	if b, _ := emit.Code(taken(t, ": main ;")); len(b) != 132 {
		t.Errorf("%d bytes", len(b))
	}
	wantEffects(t, ": main ;", 128, api.Effect{At: 128})
}

func TestExample2(t *testing.T) { // 13.1, 13.3
	src := "7 constant seven variable v : main seven v ! ;"
	wantCells(t, src, 2, 7, 2, 0x8000, 1, 128, 132, 102, 16)
	if b, _ := emit.Code(taken(t, src)); len(b) != 146 {
		t.Errorf("%d bytes", len(b))
	}
	wantEffects(t, src, 136, api.Effect{At: 136})
}

func TestExample3(t *testing.T) { // 13.2
	src := ": main begin 1 while 2 drop repeat ;"
	wantCells(t, src, 1, 6, 1, 10, 148, 6, 2, 26, 8, 130, 16)
	if b, _ := emit.Code(taken(t, src)); len(b) != 150 {
		t.Errorf("%d bytes", len(b))
	}
}

func TestExample4(t *testing.T) { // 13.3
	wantEffects(t, ": a drop ; : main ;", 134, api.Effect{At: 128, In: 1}, api.Effect{At: 134})
	wantEffects(t, ": a >r ; : main ;", 134, api.Effect{At: 134})
}

func TestExample5(t *testing.T) { // 13.1, 13.3
	wantError(t, "no main", badMain, api.Program{})
	wantError(t, "513 definitions", tooMany, trees.Program(append(trees.Constants(512), trees.Word("main"))...))
}

func TestFirstCells(t *testing.T) { // 13.1: cell k holds k, whatever comes behind
	for _, src := range []string{": main ;", "65535 constant k : main k begin again ; 3 bank { 9 }", ": a if 1 then ; : main a a ; variable v"} {
		b, e := emit.Code(taken(t, src))
		if e != fine || len(b) < 128 {
			t.Fatalf("%s: %d bytes, %d", src, len(b), e)
		}
		for k := range 64 {
			if int(b[2*k]) != k || b[2*k+1] != 0 {
				t.Errorf("%s: the cell %d is %d and %d", src, k, b[2*k], b[2*k+1])
			}
		}
	}
}

func TestRowsByHand(t *testing.T) { // 13.2: each row alone, empty and with each of its bodies
	for src, want := range map[string][]uint16{
		"":                                       {},
		"nop":                                    {18},
		"bank":                                   {126},
		"exit":                                   {16},
		"7":                                      {6, 7},
		"if then":                                {10, 134},
		"if nop then":                            {10, 136, 18},
		"if else then":                           {10, 138, 8, 138},
		"if nop else then":                       {10, 140, 18, 8, 140},
		"if else dup then":                       {10, 138, 8, 140, 24},
		"if nop else dup then":                   {10, 140, 18, 8, 142, 24},
		"if 1 nop else 2 then":                   {10, 144, 6, 1, 18, 8, 148, 6, 2},
		"begin until":                            {10, 130},
		"begin nop until":                        {18, 10, 130},
		"begin while repeat":                     {10, 138, 8, 130},
		"begin nop while repeat":                 {18, 10, 140, 8, 130},
		"begin while dup repeat":                 {10, 140, 24, 8, 130},
		"begin nop while dup repeat":             {18, 10, 142, 24, 8, 130},
		"begin again":                            {8, 130},
		"begin nop again":                        {18, 8, 130},
		"do loop":                                {12, 14, 132},
		"do nop loop":                            {12, 18, 14, 132},
		"nop nop do 5 loop dup":                  {18, 18, 12, 6, 5, 14, 136, 24},
		"if if then then":                        {10, 138, 10, 138},
		"if then if then":                        {10, 134, 10, 138},
		"begin begin again again":                {8, 130, 8, 130},
		"begin nop begin until until":            {18, 10, 132, 10, 130},
		"do do loop loop":                        {12, 12, 14, 134, 14, 132},
		"if if else then else if else then then": {10, 146, 10, 142, 8, 142, 8, 154, 10, 154, 8, 154},
		"begin if exit then while exit repeat":   {10, 136, 16, 10, 146, 16, 8, 130},
	} {
		wantCells(t, ": main "+src+" ;", append(append([]uint16{1}, want...), 16)...)
	}
}

func TestEachPrimitive(t *testing.T) { // 13.2: its thread is twice its number
	if many := len(strings.Fields(sources.Primitives)); many != 55 {
		t.Fatalf("the tests' own %d names", many)
	}
	for op := 9; op < 64; op++ {
		wantCells(t, ": main "+sources.Primitive(op).Src+" ;", 1, uint16(2*op), 16)
		wantBody(t, sources.Primitive(op))
	}
}

func TestNumbers(t *testing.T) { // 13.2: in a body, and 13.1: as a constant's
	for _, x := range []uint16{0, 1, 2, 16, 64, 127, 128, 255, 256, 257, 511, 512, 0x1234, 0x7fff, 0x8000, 0xff00, 0xfffe, 0xffff} {
		s := strconv.Itoa(int(x))
		wantCells(t, ": main "+s+" ;", 1, 6, x, 16)
		wantCells(t, s+" constant k : main k ;", 2, x, 1, 128, 16)
	}
	wantCells(t, ": main -1 $ffff 'a' -32768 ;", 1, 6, 65535, 6, 65535, 6, 97, 6, 32768, 16)
	wantCells(t, "-2 constant k 'z' constant z : main ;", 2, 65534, 2, 122, 1, 16)
}

func TestEachKindOfDefinition(t *testing.T) { // 13.1: word, constant, variable, buffer: its cells, at its place; 13.2: its name
	wantCells(t, ": w dup ; 9 constant k variable v 5 buffer b : main w k v b ;",
		1, 24, 16, // w at 128
		2, 9, // k at 134
		2, 0x8000, // v at 138
		2, 0x8002, // b at 142
		1, 128, 134, 138, 142, 16) // main at 146
	wantCells(t, "3 buffer b variable v 0 buffer none variable u 40 buffer c : main c u none v b ;",
		2, 0x8000, 2, 0x8003, 2, 0x8005, 2, 0x8005, 2, 0x8007, 1, 144, 140, 136, 132, 128, 16)
	wantCells(t, "16384 buffer full 0 buffer none : main none full ;", 2, 0x8000, 2, 0xc000, 1, 132, 128, 16)
	wantCells(t, "16383 buffer b 1 buffer last 0 buffer none : main ;", 2, 0x8000, 2, 0xbfff, 2, 0xc000, 1, 16)
	// What stands behind main is there too, and main may be called.
	wantCells(t, ": main ; 8 constant k : w main k ; variable v", 1, 16, 2, 8, 1, 128, 132, 16, 2, 0x8000)
	// Names that begin alike are apart.
	wantCells(t, ": a ; : aa ; : aaa ; : main aa a aaa ;", 1, 16, 1, 16, 1, 16, 1, 132, 128, 136, 16)
}

// leaves are bodies without others in them, empty ones too.
func leaves() []sources.Part {
	return []sources.Part{{}, sources.Primitive(nop), sources.Number(0x1234), sources.Exit(), sources.Name("a"), sources.Behind(sources.Number(3), sources.Primitive(21), sources.Name("a"))}
}

// fits tells whether a body may stand in a row: no exit stands inside do.
func fits(r sources.Row, a sources.Part) bool {
	return !strings.HasPrefix(r.Src, "do") || !slices.Contains(strings.Fields(a.Src), "exit")
}

// arounds are rows around bodies: of those with one body B is not looked at.
func arounds(bodies []sources.Part) []sources.Part {
	var all []sources.Part
	for _, r := range sources.Rows() {
		for i, a := range bodies {
			for j, b := range bodies {
				if fits(r, a) && (r.Twofold() || i == j) {
					all = append(all, r.Around(a, b))
				}
			}
		}
	}
	return all
}

func TestOneWithinTheOther(t *testing.T) { // 13.2: each row around each leaf, and around each row
	once := arounds(leaves())
	var some []sources.Part
	for i, p := range once {
		if i%5 == 0 {
			some = append(some, p)
		}
	}
	for _, list := range [][]sources.Part{leaves(), once, arounds(some)} {
		for _, body := range list {
			wantBody(t, body)
		}
	}
	if len(some) < 12 {
		t.Errorf("%d of %d", len(some), len(once))
	}
}

func TestOneBehindTheOther(t *testing.T) { // 13.2: each row and each leaf behind each
	list := append(leaves(), arounds([]sources.Part{{}})...)
	list = append(list, arounds([]sources.Part{sources.Behind(sources.Number(9), sources.Primitive(13))})...)
	for _, a := range list {
		for _, b := range list {
			wantBody(t, sources.Behind(a, b))
		}
	}
	wantBody(t, sources.Behind(append(list, list[6:]...)...))
}

func TestGreatestDepth(t *testing.T) { // 13.2: 32 in one another, by each row and by all, in the one body, in the other and in turn
	rows := sources.Rows()
	for i, r := range append(rows, sources.Row{}) {
		for _, sides := range []func(int) bool{
			func(int) bool { return true },
			func(int) bool { return false },
			func(k int) bool { return k%2 == 0 },
		} {
			body := sources.Primitive(nop)
			for k := range 32 {
				if i == len(rows) {
					r = rows[k%len(rows)]
				}
				if other := sources.Behind(sources.Number(uint16(k)), sources.Primitive(13)); sides(k) || !r.Twofold() {
					body = r.Around(body, other)
				} else {
					body = r.Around(other, body)
				}
				body = sources.Behind(sources.Primitive(12), body, sources.Primitive(13))
			}
			wantBody(t, body)
		}
	}
}

func TestLongBodies(t *testing.T) { // 13.2: branches as wide as there is room: the code ends at 16384
	for _, r := range sources.Rows() {
		own := len(strings.Fields(r.Around(sources.Part{}, sources.Part{}).Cells)) - strings.Count(r.Cells, ":")
		long := sources.Part{Src: strings.Repeat("nop ", 8126-own), Cells: strings.Repeat("18 ", 8126-own)}
		for _, body := range []sources.Part{r.Around(long, sources.Part{}), r.Around(sources.Part{}, long)} {
			if !r.Twofold() && !strings.Contains(body.Src, "nop") {
				continue
			}
			var w sources.Writer
			w.Word("main", body)
			wantWritten(t, &w)
			if b, _ := emit.Code(taken(t, w.Source())); len(b) != 16384 {
				t.Errorf("%s: %d bytes", r.Src, len(b))
			}
		}
	}
}

func TestEntry(t *testing.T) { // 13.3: main's code field, wherever it stands
	none := api.Effect{}
	at := func(a uint16) api.Effect { e := none; e.At = a; return e }
	wantEffects(t, ": main ; : a ; : b ;", 128, at(128), at(132), at(136))
	wantEffects(t, ": a ; : main ; : b ;", 132, at(128), at(132), at(136))
	wantEffects(t, ": a ; : b ; : main ;", 136, at(128), at(132), at(136))
	wantEffects(t, "1 constant mainly variable domain : main ; : main2 ;", 136, at(136), at(140))
	wantEffects(t, ": a nop nop ; : main nop ; : b ;", 136, at(128), at(136), at(142))
	for many := range 30 {
		src := strings.Repeat("nop ", many)
		wantEffects(t, ": a "+src+"; variable v : main ; 7 constant k", uint16(128+4+2*many+4), at(128), at(uint16(136+2*many)))
	}
}

func TestEffects(t *testing.T) { // 13.3: of each word that has a shape, and of nothing else
	many := func(n int, s string) string { return strings.Repeat(s+" ", n) }
	wantEffects(t, ": main rot ;", 128, api.Effect{At: 128, In: 3, Out: 3})
	wantEffects(t, ": main 1 2 ;", 128, api.Effect{At: 128, Out: 2})
	wantEffects(t, ": sq dup * ; : main 3 sq drop ;", 134+2, api.Effect{At: 128, In: 1, Out: 1}, api.Effect{At: 136})
	// Constants, variables and buffers have none, between words too.
	wantEffects(t, "1 constant k : a drop ; variable v : main ; 9 buffer b : c k v b ;", 142, api.Effect{At: 132, In: 1}, api.Effect{At: 142}, api.Effect{At: 150, Out: 3})
	wantEffects(t, "1 constant k variable v 9 buffer b : main ;", 140, api.Effect{At: 140})
	// One that never returns leaves nothing.
	wantEffects(t, ": a begin again ; : main a ;", 136, api.Effect{At: 128}, api.Effect{At: 136})
	wantEffects(t, ": a 1 2 3 halt ; : b 2drop begin yield again ; : main a ;", 158, api.Effect{At: 128}, api.Effect{At: 146, In: 2}, api.Effect{At: 158})
	// Words without a shape, by each of the reasons, and those that call them.
	for _, bad := range []string{"r>", ">r", "if 1 then", "begin 1 again", "i", "if exit then drop", many(257, "1"), many(257, "drop")} {
		size := uint16(4 + layout.Size(taken(t, ": main "+bad+" ;").Defs[0].Body))
		wantEffects(t, ": a "+bad+" ; : main ;", 128+size, api.Effect{At: 128 + size})
		wantEffects(t, ": a "+bad+" ; : b a ; : main 1 ;", 134+size, api.Effect{At: 134 + size, Out: 1})
		wantEffects(t, ": main "+bad+" ; : b drop ;", 128, api.Effect{At: 128 + size, In: 1})
		wantEffects(t, ": main "+bad+" ;", 128)
		wantEffects(t, ": x + ; : a "+bad+" ; : y dup ; : main a ; : z ;", 128+6+size+6, api.Effect{At: 128, In: 2, Out: 1}, api.Effect{At: 134 + size, In: 1, Out: 2}, api.Effect{At: 146 + size})
	}
	// The greatest that may be declared.
	wantEffects(t, ": main "+many(256, "1")+";", 128, api.Effect{At: 128, Out: 256})
	wantEffects(t, ": main "+many(256, "drop")+";", 128, api.Effect{At: 128, In: 256})
	wantEffects(t, ": main "+many(256, "drop")+many(256, "1")+";", 128, api.Effect{At: 128, In: 256, Out: 256})
}

func TestMostEffects(t *testing.T) { // 13.3: of 512 words
	var defs []api.Def
	var want []api.Effect
	for i := range 512 {
		defs = append(defs, trees.Word("w"+strconv.Itoa(i), trees.Prims(i%20, 12)...))
		in := min(i%20, 1)
		at := uint16(128)
		if i > 0 {
			at = want[i-1].At + 4 + 2*uint16((i-1)%20)
		}
		want = append(want, api.Effect{At: at, In: in, Out: in + i%20})
	}
	defs[300].Name = "main"
	c, e := emit.Cart(trees.Program(defs...))
	if e != fine || !slices.Equal(c.Effects, want) || c.Entry != want[300].At {
		t.Errorf("%d, Entry %d, %d effects", e, c.Entry, len(c.Effects))
	}
	wantHeld(t, "512 words", trees.Program(defs...), c)
}

func TestBanks(t *testing.T) { // 13.3: the program's, none, empty and full
	for _, src := range []string{": main ;", ": main ; 3 bank { }", ": main ; 0 bank { 0 }", "15 bank { 1 255 0 } : main ;", "7 bank { 1 } 3 bank { 2 2 } : main ; 5 bank { } 4 bank { 9 8 7 }"} {
		p := taken(t, src)
		c, e := emit.Cart(p)
		if e != fine {
			t.Fatalf("%s: %d", src, e)
		}
		wantHeld(t, src, p, c)
	}
	full := trees.Program(trees.Word("main"))
	for num := range 16 {
		data := make([]byte, 16384)
		for i := range data {
			data[i] = byte(i*num + i/256)
		}
		full.Banks = append(full.Banks, api.Bank{Num: num, Data: data})
	}
	c, e := emit.Cart(full)
	if e != fine {
		t.Fatalf("full banks: %d", e)
	}
	wantHeld(t, "full banks", full, c)
	// Banks change nothing else.
	b, _ := emit.Code(full)
	bare, _ := emit.Cart(trees.Program(trees.Word("main")))
	if !bytes.Equal(b, bare.Code) || c.Entry != bare.Entry || !slices.Equal(c.Effects, bare.Effects) || len(bare.Banks) != 0 {
		t.Errorf("%v without banks, Entry %d, Effects %v with them", bare, c.Entry, c.Effects)
	}
}
