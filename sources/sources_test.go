package sources_test

import (
	"math/rand"
	"slices"
	"strings"
	"testing"

	"wisp/api"
	"wisp/effect"
	"wisp/emit"
	"wisp/sources"
	"wisp/token"
	"wisp/tree"
	"wisp/vm"
)

// cells are those of a writer's code behind the first 64.
func cells(t *testing.T, w *sources.Writer) []int {
	t.Helper()
	code, _, is := w.Code()
	if !is || len(code) < 128 || len(code)%2 != 0 {
		t.Fatalf("%s: %v, %t", w.Source(), code, is)
	}
	var all []int
	for i := 128; i < len(code); i += 2 {
		all = append(all, int(code[i])+256*int(code[i+1]))
	}
	return all
}

func TestCellsByHand(t *testing.T) {
	var w sources.Writer
	w.Constant("seven", 7)
	w.Variable("v")
	w.Buffer("b", 300)
	w.Variable("u")
	nop, a := sources.Primitive(9), sources.Rows()[1].Around(sources.Number(1), sources.Number(2))
	w.Word("main", sources.Name("seven"), a, nop, a, sources.Exit())
	const src = "7 constant seven variable v 300 buffer b variable u : main seven if 1 else 2 then nop if 1 else 2 then exit ;"
	if got := strings.Join(strings.Fields(w.Source()), " "); got != src {
		t.Errorf("%s, want %s", got, src)
	}
	want := []int{2, 7, 2, 0x8000, 2, 0x8002, 2, 0x812e, 1, 128, 10, 160, 6, 1, 8, 164, 6, 2, 18, 10, 178, 6, 1, 8, 182, 6, 2, 16, 16}
	if got := cells(t, &w); !slices.Equal(got, want) {
		t.Errorf("%v, want %v", got, want)
	}
	if _, at, _ := w.Code(); at["seven"] != 128 || at["main"] != 144 {
		t.Errorf("%v", at)
	}
	w.Word("x", sources.Name("nobody"))
	if _, _, is := w.Code(); is {
		t.Error("a name that is not known has cells")
	}
}

func TestProgramsAreWellFormed(t *testing.T) {
	m := sources.New(rand.New(rand.NewSource(1)))
	for range 300 {
		src := m.Some()
		if _, at, e := tree.Parse(src); e != 0 {
			t.Fatalf("%s: %d at %v", src, e, at)
		}
		cells(t, &m.Writer)
	}
}

func TestLivelyPrograms(t *testing.T) {
	r := rand.New(rand.NewSource(3))
	l := sources.NewLively(r)
	long := 0
	for range 400 {
		src := l.Program(r.Intn(9))
		if src != strings.Join(l.Words, " ") {
			t.Fatalf("%s: its words are %v", src, l.Words)
		}
		p, at, e := tree.Parse(src)
		if e != 0 {
			t.Fatalf("%s: %d at %v", src, e, at)
		}
		if e, at := effect.Typable(p); e != 0 {
			t.Fatalf("%s: %d at %v", src, e, at)
		}
		c, e := emit.Cart(p)
		if e != 0 {
			t.Fatalf("%s: %d", src, e)
		}
		m, _ := vm.New(c)
		for range 20 {
			if o, _ := m.Frame(uint8(r.Intn(256)), 500); o.Status == 3 {
				t.Fatalf("%s: %d", src, o.Fault)
			}
		}
		if m.State().Status == 1 {
			long++
		}
	}
	if long < 250 {
		t.Errorf("only %d of 400 go on", long)
	}
}

func TestAny(t *testing.T) { // all are well formed; some are typable, some are not; what is refused is not told
	r := rand.New(rand.NewSource(4))
	typable, others := 0, 0
	for range 600 {
		src := sources.Any(r, func(src string) bool {
			_, _, e := tree.Parse(src)
			return e == 0
		})
		p, at, e := tree.Parse(src)
		if e != 0 {
			t.Fatalf("%s: %d at %v", src, e, at)
		}
		if e, _ := effect.Typable(p); e == 0 {
			typable++
		} else {
			others++
		}
	}
	if typable < 200 || others < 100 {
		t.Errorf("%d are typable, %d are not", typable, others)
	}
	for range 100 {
		if p, _, e := tree.Parse(sources.Any(r, func(string) bool { return false })); e != 0 || len(p.Defs) == 0 {
			t.Fatal(e)
		}
	}
}

func TestTypable(t *testing.T) { // all are, and each number of a shape comes up to its limit
	var most api.Shape
	for _, src := range sources.Typable() {
		p, at, e := tree.Parse(src)
		f, where := effect.Typable(p)
		if e != 0 || f != 0 {
			t.Errorf("%.100s: %d at %v, %d at %v", src, e, at, f, where)
		}
		typed, _ := effect.Shapes(p)
		for _, x := range typed {
			s := x.Shape
			most = api.Shape{In: max(most.In, s.In), Out: max(most.Out, s.Out), Data: max(most.Data, s.Data), Return: max(most.Return, s.Return)}
		}
	}
	if most != (api.Shape{In: 256, Out: 256, Data: 256, Return: 128}) {
		t.Errorf("the greatest numbers are %+v", most)
	}
}

func TestWords(t *testing.T) {
	r := rand.New(rand.NewSource(2))
	words := strings.Fields(": main 7 drop ;")
	lengths := map[int]int{}
	for range 500 {
		src := sources.Dressed(r, words...)
		tokens, _, e := token.Scan(src)
		var got []string
		for _, x := range tokens {
			got = append(got, x.Text)
		}
		if e != 0 || !slices.Equal(got, words) {
			t.Fatalf("%q: %v, %d", src, got, e)
		}
		changed := sources.Changed(r, "x", words...)
		if slices.Equal(changed, words) || strings.Join(words, " ") != ": main 7 drop ;" {
			t.Fatalf("%v with one changed: %v", words, changed)
		}
		lengths[len(changed)]++
	}
	if lengths[4] == 0 || lengths[5] == 0 || lengths[6] == 0 {
		t.Errorf("%v", lengths)
	}
	if got := sources.Changed(r, "x"); !slices.Equal(got, []string{"x"}) {
		t.Errorf("of no words: %v", got)
	}
}

func TestBodies(t *testing.T) {
	leaves := []string{"1", "exit"}
	if got := sources.Bodies(leaves, 0, false); !slices.Equal(got, []string{""}) {
		t.Errorf("of no words: %q", got)
	}
	got := sources.Bodies(leaves, 1, false)
	want := []string{"1", "exit", "if  then", "begin  until", "begin  again", "do  loop"}
	if !slices.Equal(got, want) {
		t.Errorf("of one word: %q, want %q", got, want)
	}
	for many := range 4 {
		seen := map[string]int{}
		for _, body := range sources.Bodies(leaves, many, false) {
			seen[body]++
			if _, at, e := tree.Parse(": main " + body + " ;"); e != 0 || seen[body] > 1 {
				t.Errorf("%s: %d at %v, %d times", body, e, at, seen[body])
			}
		}
		if len(seen) < 1<<many {
			t.Errorf("of %d words: %d", many, len(seen))
		}
	}
}
