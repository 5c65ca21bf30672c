package tidy_test

import (
	"bytes"
	"math/rand"
	"reflect"
	"slices"
	"strings"
	"testing"

	"wisp/api"
	"wisp/effect"
	"wisp/emit"
	"wisp/layout"
	"wisp/sources"
	"wisp/tidy"
	"wisp/tree"
	"wisp/vm"
)

// modelProgram is a plain reading of 24.4, of a program that is typable.
func modelProgram(m *model, p api.Program) api.Program {
	p.Defs = slices.Clone(p.Defs)
	made := map[string][]api.Node{}
	used := modelUsed(p)
	for i, d := range p.Defs {
		if d.Kind != 1 || !slices.Contains(used, d.Name) {
			continue
		}
		body := m.body(step1(d.Body, made))
		if last := len(body) - 1; last >= 0 && body[last].Kind == nodeExit {
			body = body[:last]
		}
		p.Defs[i].Body, made[d.Name] = body, body
	}
	used = modelUsed(p)
	p.Defs = slices.DeleteFunc(p.Defs, func(d api.Def) bool {
		return d.Kind != 3 && !slices.Contains(used, d.Name)
	})
	return p
}

func step1(list []api.Node, made map[string][]api.Node) []api.Node {
	var all []api.Node
	for _, n := range list {
		n.Then, n.Else = step1(n.Then, made), step1(n.Else, made)
		body, is := made[n.Name]
		switch {
		case n.Kind != nodeCall || !is || len(body) > 1:
			all = append(all, n)
		case len(body) == 1 && body[0].Kind == nodePrim:
			all = append(all, api.Node{Kind: nodePrim, Op: body[0].Op, Pos: n.Pos})
		case len(body) == 1 && body[0].Kind == nodeCall:
			all = append(all, api.Node{Kind: nodeCall, Name: body[0].Name, Pos: n.Pos})
		case len(body) == 1:
			all = append(all, n)
		}
	}
	return all
}

// plainProgram is a program in which every list without elements is nil (R4).
func plainProgram(p api.Program) api.Program {
	q := api.Program{}
	for _, d := range p.Defs {
		d.Body = plain(d.Body)
		q.Defs = append(q.Defs, d)
	}
	for _, b := range p.Banks {
		q.Banks = append(q.Banks, api.Bank{Num: b.Num, Data: append([]byte(nil), b.Data...)})
	}
	return q
}

// text is a program's, for what a test tells.
func text(p api.Program) string {
	s, e := tree.Print(p)
	if e != fine {
		return "a program that may not be"
	}
	return s
}

// tidied is what a typable program comes to: as the model says, settled (24.6, 24.7), and typable (24.5).
func tidied(t *testing.T, m *model, p api.Program) api.Program {
	t.Helper()
	q, e := tidy.Program(p)
	if want := modelProgram(m, p); e != fine || !reflect.DeepEqual(plainProgram(q), plainProgram(want)) {
		t.Fatalf("24.4: Program of\n%sis %d,\n%swant\n%s", text(p), e, text(q), text(want))
	}
	e, at := effect.Typable(q)
	if f := tree.Check(q); e != fine || f != fine {
		t.Fatalf("24.5: Program of\n%sis\n%swhich has the error %d, %d at %v", text(p), text(q), f, e, at)
	}
	if again, e := tidy.Program(q); e != fine || !tree.Same(again, q) {
		t.Fatalf("24.6: Program of\n%sis %d,\n%s", text(q), e, text(again))
	}
	for _, d := range q.Defs {
		if m.applies(d.Body) {
			t.Fatalf("24.7: Program of\n%sis\n%sin which a rule applies", text(p), text(q))
		}
	}
	return q
}

// variables are where those of a program lie.
func variables(p api.Program, places []layout.Place) map[string]uint16 {
	at := map[string]uint16{}
	for i, d := range p.Defs {
		if d.Kind == 3 {
			at[d.Name] = places[i].Ram
		}
	}
	return at
}

// wantRoom asks that a program needs no more code than another, and the same memory (24.5).
func wantRoom(t *testing.T, p, q api.Program) {
	t.Helper()
	one, code, ram, _, e := layout.Of(p)
	two, codeLeft, ramLeft, _, f := layout.Of(q)
	if e != fine || f != fine || codeLeft > code || ramLeft != ram || !reflect.DeepEqual(variables(p, one), variables(q, two)) {
		t.Fatalf("24.5: layout.Of\n%sis %d, %d, %d, of\n%s%d, %d, %d", text(p), code, ram, e, text(q), codeLeft, ramLeft, f)
	}
}

// wantShapes asks that no word of a program takes more than in another, or lifts a stack higher (24.8).
func wantShapes(t *testing.T, p, q api.Program) {
	t.Helper()
	before := map[string]api.Shape{}
	all, _ := effect.Shapes(p)
	for _, x := range all {
		before[x.Name] = x.Shape
	}
	left, e := effect.Shapes(q)
	if e != fine {
		t.Fatalf("24.8: effect.Shapes: %d", e)
	}
	for _, x := range left {
		a, b := before[x.Name], x.Shape
		if b.In > a.In || b.Data > a.Data || b.Return > a.Return || !b.Never && (a.Never || b.Out-b.In != a.Out-a.In) {
			t.Fatalf("24.8: %s of\n%sis %+v, of\n%s%+v", x.Name, text(p), a, text(q), b)
		}
	}
}

// heard are tones without their cycles.
func heard(tones []api.Tone) []api.Tone {
	var all []api.Tone
	for _, x := range tones {
		all = append(all, api.Tone{Pitch: x.Pitch, Volume: x.Volume})
	}
	return all
}

// mayBeCut tells whether a frame may be cut: where there are cycles left for any instruction it is not, if the machine has gone on or stopped.
func mayBeCut(o api.Out) bool { return o.Status == api.Running && o.Idle < api.MaxCost }

// life plays a program and what it comes to side by side, so many frames or as long as no frame of either is cut, and tells how many were played, and how many cycles fewer it took.
func life(t *testing.T, r *rand.Rand, p, q api.Program, most int) (frames, fewer int) {
	t.Helper()
	one, two := machine(t, p), machine(t, q)
	budget := []int{api.MaxBudget, api.MaxBudget, 2000, 60 + r.Intn(400)}[r.Intn(4)]
	for range most {
		pad := uint8(r.Intn([]int{4, 8, 256}[r.Intn(3)]))
		a, e := one.Frame(pad, budget)
		b, f := two.Frame(pad, budget)
		if e != fine || f != fine {
			t.Fatalf("the tests' own frames: %d, %d", e, f)
		}
		if mayBeCut(a) || mayBeCut(b) {
			return frames, fewer
		}
		if a.Status != b.Status || a.Fault != 0 || b.Fault != 0 || !bytes.Equal(a.Screen, b.Screen) || !slices.Equal(heard(a.Tones), heard(b.Tones)) || b.Spent > a.Spent {
			t.Fatalf("W8: frame %d, of %d cycles, of\n%sand of\n%s: %v %d %v, %v %d %v", frames, budget, text(p), text(q), a.Status, a.Spent, a.Tones, b.Status, b.Spent, b.Tones)
		}
		frames++
		fewer += a.Spent - b.Spent
	}
	return frames, fewer
}

func machine(t *testing.T, p api.Program) *vm.Machine {
	t.Helper()
	c, e := emit.Cart(p)
	m, f := vm.New(c)
	if e != fine || f != fine {
		t.Fatalf("the tests' own %s: %d, %d", text(p), e, f)
	}
	return m
}

func TestDrawnPrograms(t *testing.T) { // 24.4 to 24.8, W8
	for seed := range 8 {
		t.Run("", func(t *testing.T) {
			t.Parallel()
			r, m := rand.New(rand.NewSource(int64(2430+seed))), newModel()
			frames, fewer, met := 0, 0, map[string]int{}
			for range 250 {
				p := drawn(t, r, met)
				q := tidied(t, m, p)
				wantRoom(t, p, q)
				wantShapes(t, p, q)
				for range 4 {
					many, less := life(t, r, p, q, 12)
					frames, fewer = frames+many, fewer+less
				}
			}
			if frames < 3000 || fewer < 30000 {
				t.Errorf("%d frames, %d cycles fewer", frames, fewer)
			}
		})
	}
}

func TestTypablePrograms(t *testing.T) { // 24.4 to 24.8, W8: with shapes up to their limits, and the deepest
	t.Parallel()
	r, m := rand.New(rand.NewSource(2440)), newModel()
	for _, src := range sources.Typable() {
		p := parsed(t, src)
		q := tidied(t, m, p)
		wantRoom(t, p, q)
		wantShapes(t, p, q)
		life(t, r, p, q, 12)
	}
}

// shows are ends of main behind a word that has left so many cells: they are written where they can be seen.
func shows(many int) string {
	var b strings.Builder
	for i := range many {
		b.WriteString([]string{"49152 ! ", "49154 ! ", "49156 ! ", "49158 ! ", "49160 ! ", "49162 ! "}[i%6])
	}
	return b.String()
}

func TestEveryTypableBody(t *testing.T) { // 24.4 to 24.8, W8: of few words, called with some cells
	for _, leaves := range []string{"0 1 drop exit", "0 dup swap + over", "7 0= drop invert", "halt 1 nop 1+"} {
		t.Run(leaves, func(t *testing.T) {
			t.Parallel()
			m, played := newModel(), 0
			for many := range 5 {
				for _, body := range sources.Bodies(strings.Fields(leaves), many, false) {
					played += playedOf(t, m, body)
				}
			}
			if played < 3000 {
				t.Errorf("%d frames were played", played)
			}
		})
	}
}

// playedOf asks all that holds of a word with that body, if it may be called with a few cells, and tells how many frames were played.
func playedOf(t *testing.T, m *model, body string) int {
	t.Helper()
	w := ": w " + body + " ; "
	shapes, e := effect.Shapes(parsed(t, w+": main ;"))
	if e != fine || shapes[0].Err != fine || shapes[0].Shape.In > 4 {
		return 0
	}
	left := 4 - shapes[0].Shape.In + shapes[0].Shape.Out
	p := parsed(t, w+": main 11 12 13 14 w "+shows(left)+"yield ;")
	q := tidied(t, m, p)
	wantRoom(t, p, q)
	wantShapes(t, p, q)
	frames, _ := life(t, rand.New(rand.NewSource(2450)), p, q, 2)
	return frames
}
