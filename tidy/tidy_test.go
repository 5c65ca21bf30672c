package tidy_test

import (
	"reflect"
	"strings"
	"testing"

	"wisp/api"
	"wisp/tidy"
	"wisp/tree"
)

// Errors by the document's numbers, not by api's names: a slip in one of the two must show.
const (
	fine      = api.Errno(0)
	badMain   = api.Errno(107)
	badJoin   = api.Errno(150)
	badLoop   = api.Errno(151)
	badReturn = api.Errno(152)
	badDepth  = api.Errno(153)
	badEffect = api.Errno(154)
)

// parsed is the program of a source.
func parsed(t *testing.T, src string) api.Program {
	t.Helper()
	p, at, e := tree.Parse(src)
	if e != fine {
		t.Fatalf("the tests' own %.200q: %d at %v", src, e, at)
	}
	return p
}

// names are defined ahead of the bodies of these tests, so that these may name them.
const names = "variable x variable y : z ; "

// nodes are those of a text, each with its own place.
func nodes(t *testing.T, src string) []api.Node {
	t.Helper()
	p := parsed(t, names+": main\n"+src+" ;")
	return p.Defs[len(p.Defs)-1].Body
}

// plain is a list in which every list without elements is nil (R4).
func plain(list []api.Node) []api.Node {
	var all []api.Node
	for _, n := range list {
		n.Then, n.Else = plain(n.Then), plain(n.Else)
		all = append(all, n)
	}
	return all
}

func same(a, b []api.Node) bool { return reflect.DeepEqual(plain(a), plain(b)) }

// placeless is a list without places.
func placeless(list []api.Node) []api.Node {
	list = plain(list)
	for i := range list {
		n := &list[i]
		n.Pos, n.Then, n.Else = api.Pos{}, placeless(n.Then), placeless(n.Else)
	}
	return list
}

// wantText asks what a text's nodes come to, but for places.
func wantText(t *testing.T, what, src, want string) {
	t.Helper()
	got := tidy.Body(nodes(t, src))
	if !same(placeless(got), placeless(nodes(t, want))) {
		t.Errorf("%s: Body of %s = %+v, want %s", what, src, placeless(got), want)
	}
}

// wantProgram asks what a source comes to; the lines are those of tree.Print.
func wantProgram(t *testing.T, what, src string, lines ...string) {
	t.Helper()
	p, e := tidy.Program(parsed(t, src))
	got, f := tree.Print(p)
	if want := strings.Join(lines, "\n") + "\n"; e != fine || f != fine || got != want {
		t.Errorf("%s: Program of %s = %q, %d, %d, want %q", what, src, got, e, f, want)
	}
}

// wantRefused asks for an error, and for no program beside it.
func wantRefused(t *testing.T, what string, p api.Program, want api.Errno) {
	t.Helper()
	if q, e := tidy.Program(p); e != want || !reflect.DeepEqual(q, api.Program{}) {
		t.Errorf("%s: Program = %v, %d, want %d", what, q, e, want)
	}
}

func TestExample1(t *testing.T) { // 24.2
	for _, c := range [][2]string{
		{"2 3 + 4 *", "20"},
		{"dup swap swap drop", ""},
		{"5 0= if 1 else 2 then", "2"},
		{"swap +", "+"},
		{"7 7", "7 dup"},
		{"7 7 +", "14"},
		{"x @ drop", "x drop"},
	} {
		wantText(t, "example 1", c[0], c[1])
	}
}

func TestExample2(t *testing.T) { // 24.1, 24.2
	for _, c := range [][2]string{
		{"begin yield 0 until 5", "begin yield again"},
		{"begin 1 while yield repeat", "begin yield again"},
		{"begin drop 1 until", "drop"},
		{"if then", "drop"},
		{"if 5 drop else then", "drop"},
	} {
		wantText(t, "example 2", c[0], c[1])
	}
}

func TestExample3(t *testing.T) { // 24.4
	wantProgram(t, "example 3", ": inc 1 + ; : both inc inc ; : main 5 both drop ;", ": both 1+ 1+ ;", ": main 5 both drop ;")
}

func TestExample4(t *testing.T) { // 24.4
	wantProgram(t, "example 4", ": nothing nop exit ; : main nothing 7 drop ;", ": main ;")
	wantProgram(t, "example 4", "3 constant k variable v : main ;", "variable v", ": main ;")
}

func TestExample5(t *testing.T) { // 24.4
	wantRefused(t, "example 5", parsed(t, ": main drop ;"), badEffect)
}
