package infer_test

import (
	"slices"
	"strconv"
	"strings"
	"testing"

	"wisp/api"
	"wisp/flow"
	"wisp/infer"
	"wisp/sources"
)

// Errors by the document's numbers, not by api's names: a slip in one of the two must show.
const (
	fine      = api.Errno(0)
	badCart   = api.Errno(74)
	badJoin   = api.Errno(150)
	badLoop   = api.Errno(151)
	badReturn = api.Errno(152)
	badDepth  = api.Errno(153)
	badTarget = api.Errno(160)
	badOpcode = api.Errno(161)
	badFall   = api.Errno(162)
	badCall   = api.Errno(163)
)

// primitives are the names in the order of DOC.md's table, from number 1 on.
const primitives = "enter const lit branch zbranch do loop exit " + sources.Primitives

// callees are the words that the tests' words call, by the names that they have there.
var callees = map[string]api.Shape{
	"none":  {},
	"two":   {Out: 2, Data: 2},
	"takes": {In: 2},
	"high":  {Data: 3},
	"saves": {Data: 1, Return: 1},
	"never": {Never: true},
	"eats":  {In: 2, Never: true},
}

// word is what a test has written as a text:
//
//	7         lit 7
//	loop,x    an operand that is the address of the mark x
//	x:        the mark x, at the next instruction
//	two       a call of that callee
//	op,64     an Op
//	gap       a cell at which no instruction lies
//	nop~x     its Next is the address of the mark x
//	^exit     the fault is there
//	^         the fault is where the next instruction would lie
type word struct {
	flow.Word
	known map[uint16]api.Shape
	fault uint16
}

// written is the word of a text, with that code field and those callees.
func written(t *testing.T, field uint16, callees map[string]api.Shape, text string) word {
	t.Helper()
	w := word{Word: flow.Word{At: field}, known: map[uint16]api.Shape{}}
	names := strings.Fields(primitives)
	fields := map[string]uint16{}
	for name, s := range callees {
		fields[name] = 40000 + uint16(len(fields))*2
		w.known[fields[name]] = s
	}
	marks := map[string]uint16{}
	var open []func()
	at := field + 2
	for _, part := range strings.Fields(text) {
		if mark, is := strings.CutSuffix(part, ":"); is {
			marks[mark] = at
			continue
		}
		part, isFault := strings.CutPrefix(part, "^")
		if isFault {
			w.fault = at
		}
		if part == "" {
			continue
		}
		if part == "gap" {
			at += 2
			continue
		}
		part, next, hasNext := strings.Cut(part, "~")
		name, operand, _ := strings.Cut(part, ",")
		x := flow.Instr{At: at, Op: 1 + slices.Index(names, name), Next: at + 2}
		number, notNumber := strconv.Atoi(name)
		called, isCall := fields[name]
		i := len(w.Instrs)
		switch {
		case notNumber == nil:
			x.Op, x.Operand, x.Next = 3, uint16(number), at+4
		case isCall:
			x.Op, x.Word = 1, called
			w.Calls = append(w.Calls, called)
		case name == "op":
			x.Op, _ = strconv.Atoi(operand)
		case x.Op == 4 || x.Op == 5 || x.Op == 7:
			x.Next = at + 4
			open = append(open, func() { w.Instrs[i].Operand = markOf(t, marks, operand) })
		case x.Op == 0 || x.Op == 1 || x.Op == 3:
			t.Fatalf("the tests' own %q in %q", part, text)
		}
		at = x.Next
		if hasNext {
			open = append(open, func() { w.Instrs[i].Next = markOf(t, marks, next) })
		}
		w.Instrs = append(w.Instrs, x)
	}
	for _, close := range open {
		close()
	}
	return w
}

func markOf(t *testing.T, marks map[string]uint16, name string) uint16 {
	t.Helper()
	at, is := marks[name]
	if !is {
		t.Fatalf("the tests' own mark %q is not among %v", name, marks)
	}
	return at
}

// holdShape holds Shape of a word to an answer; the order of the instructions does not matter.
func holdShape(t *testing.T, text string, w word, want api.Shape, v api.Verdict) {
	t.Helper()
	if s, u := infer.Shape(w.Word, w.known); s != want || u != v {
		t.Errorf("%s: %+v, %v, want %+v, %v", brief(text), s, u, want, v)
		return
	}
	slices.Reverse(w.Instrs)
	if s, u := infer.Shape(w.Word, w.known); s != want || u != v {
		t.Errorf("%s, the last instruction first: %+v, %v, want %+v, %v", brief(text), s, u, want, v)
	}
}

// wantWith holds the word of a text to a shape, with those callees.
func wantWith(t *testing.T, callees map[string]api.Shape, text string, want api.Shape) {
	t.Helper()
	holdShape(t, text, written(t, 128, callees, text), want, api.Verdict{})
}

// wantFaultWith holds the word of a text to an error at its mark.
func wantFaultWith(t *testing.T, callees map[string]api.Shape, text string, e api.Errno) {
	t.Helper()
	if !strings.Contains(text, "^") {
		t.Fatalf("the tests' own %s says not where", brief(text))
	}
	w := written(t, 128, callees, text)
	holdShape(t, text, w, api.Shape{}, api.Verdict{Err: e, At: w.fault})
}

// wantReturns holds the word of a text to the four numbers of a shape that returns.
func wantReturns(t *testing.T, text string, in, out, data, ret int) {
	t.Helper()
	wantWith(t, callees, text, api.Shape{In: in, Out: out, Data: data, Return: ret})
}

// wantNever holds the word of a text to the numbers of a shape that never returns.
func wantNever(t *testing.T, text string, in, data, ret int) {
	t.Helper()
	wantWith(t, callees, text, api.Shape{In: in, Data: data, Return: ret, Never: true})
}

func wantFault(t *testing.T, text string, e api.Errno) {
	t.Helper()
	wantFaultWith(t, callees, text, e)
}

// wantNoOut holds the word of a text to ErrDepth at its own code field.
func wantNoOut(t *testing.T, text string) {
	t.Helper()
	holdShape(t, text, written(t, 128, callees, text), api.Shape{}, api.Verdict{Err: badDepth, At: 128})
}

func times(many int, s string) string { return strings.Repeat(s+" ", many) }

// brief is a text as far as a message has room for it.
func brief(s string) string {
	if len(s) > 300 {
		return s[:150] + " .. " + s[len(s)-100:]
	}
	return s
}
