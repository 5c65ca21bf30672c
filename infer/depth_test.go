package infer_test

import (
	"fmt"
	"strings"
	"testing"

	"wisp/api"
	"wisp/sources"
)

func TestInAtItsLimit(t *testing.T) { // 17.1, 5: 256, and one more, at each primitive that takes something
	rows := strings.Fields(sources.Effects)
	for i := 0; i < len(rows); i += 3 {
		name, in, out := rows[i], int(rows[i+1][0]-'0'), int(rows[i+2][0]-'0')
		if in > 0 {
			wantReturns(t, times(256-in, "drop")+name+" exit", 256, out, 0, 0)
			wantFault(t, times(257-in, "drop")+"^"+name+" exit", badDepth)
			wantFault(t, times(256, "drop")+"^"+name+" exit", badDepth)
		}
	}
	for _, c := range []struct {
		op, behind string
		in, ret    int
	}{
		{">r", "halt", 1, 1}, {"do", "halt", 2, 2}, {"zbranch,x", "x: halt", 1, 0}, {"takes", "halt", 2, 1}, {"eats", "", 2, 1},
	} {
		wantNever(t, times(256-c.in, "drop")+c.op+" "+c.behind, 256, 0, c.ret)
		wantFault(t, times(257-c.in, "drop")+"^"+c.op+" "+c.behind, badDepth)
		wantFault(t, times(256, "drop")+"^"+c.op+" "+c.behind, badDepth)
		// What has been put there may be taken.
		wantNever(t, times(256, "drop")+times(c.in, "1")+c.op+" "+c.behind, 256, 0, c.ret)
	}
	// What takes nothing may stand there still.
	wantReturns(t, times(256, "drop")+"nop none 7 pad const 2drop drop branch,x x: yield exit", 256, 0, 0, 1)
}

func TestInOfACallAtItsLimit(t *testing.T) { // 17.1, 5
	for in := range 257 {
		w := map[string]api.Shape{"w": {In: in}}
		wantWith(t, w, times(256-in, "drop")+"w exit", api.Shape{In: 256, Return: 1})
		if in > 0 {
			wantFaultWith(t, w, times(257-in, "drop")+"^w exit", badDepth)
		}
	}
}

func TestDataAtItsLimit(t *testing.T) { // 17.1, 5: 256, and one more, at each primitive that leaves more than it takes
	for _, name := range []string{"7", "const", "pad", "dup", "over", "tuck"} {
		wantReturns(t, times(255, "1")+name+" exit", 0, 256, 256, 0)
		wantFault(t, times(256, "1")+"^"+name+" exit", badDepth)
	}
	wantReturns(t, times(254, "1")+"2dup exit", 0, 256, 256, 0)
	wantFault(t, times(255, "1")+"^2dup exit", badDepth)
	wantFault(t, times(256, "1")+"^2dup exit", badDepth)
	for _, c := range []struct {
		own, op string
		ret     int
	}{{"1 >r ", "r>", 1}, {"1 >r ", "r@", 1}, {"1 2 do ", "i", 2}, {"1 2 do 3 4 do ", "j", 4}} {
		wantNever(t, c.own+times(255, "1")+c.op+" halt", 0, 256, c.ret)
		wantFault(t, c.own+times(256, "1")+"^"+c.op+" halt", badDepth)
	}
	// What leaves no more than it takes may stand there still.
	wantNever(t, times(256, "1")+"swap nip 1 + dup drop 1~x x: 2drop none >r r> halt", 0, 256, 1)
}

func TestDataOfACallAtItsLimit(t *testing.T) { // 17.1, 5: the height ahead of the step, and the word's Data more
	for data := range 257 {
		w := map[string]api.Shape{"w": {Data: data}}
		wantWith(t, w, times(256-data, "1")+"w halt", api.Shape{Data: 256, Return: 1, Never: true})
		if data > 0 {
			wantFaultWith(t, w, times(257-data, "1")+"^w halt", badDepth)
		}
	}
	full := map[string]api.Shape{"w": {Data: 256}, "takes": {In: 1, Data: 256}, "never": {Data: 256, Never: true}}
	wantFaultWith(t, full, "1 ^w halt", badDepth)
	wantFaultWith(t, full, "1 ^takes halt", badDepth)
	wantFaultWith(t, full, "1 ^never", badDepth)
	wantWith(t, full, "drop w halt", api.Shape{In: 1, Data: 255, Return: 1, Never: true})
	wantWith(t, full, "takes halt", api.Shape{In: 1, Data: 256, Return: 1, Never: true})
	wantWith(t, full, "never", api.Shape{Data: 256, Return: 1, Never: true})
	// What it leaves is too much, though its Data is not.
	leaves := map[string]api.Shape{"w": {Out: 256}, "v": {In: 2, Out: 256}}
	wantWith(t, leaves, "w exit", api.Shape{Out: 256, Data: 256, Return: 1})
	wantFaultWith(t, leaves, "1 ^w exit", badDepth)
	wantWith(t, leaves, "1 2 v exit", api.Shape{Out: 256, Data: 256, Return: 1})
	wantFaultWith(t, leaves, "1 2 3 ^v exit", badDepth)
}

func TestReturnAtItsLimit(t *testing.T) { // 17.1, 5: 128 own cells, and one more
	wantNever(t, times(128, "1 >r")+"halt", 0, 1, 128)
	wantFault(t, times(128, "1 >r")+"1 ^>r halt", badDepth)
	wantNever(t, times(126, "1 >r")+"1 2 do halt", 0, 2, 128)
	wantFault(t, times(127, "1 >r")+"1 2 ^do halt", badDepth)
	wantFault(t, times(128, "1 >r")+"1 2 ^do halt", badDepth)
	wantNever(t, times(64, "1 2 do")+"i j halt", 0, 2, 128)
	wantFault(t, times(64, "1 2 do")+"1 ^>r", badDepth)
	wantFault(t, times(64, "1 2 do")+"1 2 ^do", badDepth)
	// It may be so high again and again.
	wantReturns(t, times(128, ">r")+times(128, "r>")+times(128, ">r")+times(128, "r>")+"exit", 128, 128, 0, 128)
	opened, closed := "", ""
	for i := range 64 {
		opened += fmt.Sprintf("1 2 do a%d: ", i)
		closed = fmt.Sprintf("loop,a%d ", i) + closed
	}
	wantReturns(t, opened+closed+"exit", 0, 0, 2, 128)
}

func TestReturnOfACallAtItsLimit(t *testing.T) { // 17.1, 5: the own cells, 1, and the word's Return more
	for ret := range 128 {
		w := map[string]api.Shape{"w": {Return: ret}, "v": {Return: ret, Never: true}}
		own := times(127-ret, "1 >r")
		wantWith(t, w, own+"w halt", api.Shape{Data: min(1, 127-ret), Return: 128, Never: true})
		wantFaultWith(t, w, own+"1 >r ^w halt", badDepth)
		wantWith(t, w, own+"v", api.Shape{Data: min(1, 127-ret), Return: 128, Never: true})
		wantFaultWith(t, w, own+"1 >r ^v", badDepth)
	}
	wantFaultWith(t, map[string]api.Shape{"w": {Return: 128}}, "^w exit", badDepth)
	wantFault(t, times(128, "1 >r")+"^none halt", badDepth)
}

func TestOutAtItsLimit(t *testing.T) { // 17.1, the end: In and the exit's height more; ErrDepth at the word's own address
	for in := range 257 {
		drops := times(in, "drop")
		wantReturns(t, drops+times(in, "1")+"exit", in, in, 0, 0)
		wantReturns(t, drops+times(256, "1")+"exit", in, 256, 256-in, 0)
		if in > 0 {
			wantNoOut(t, drops+times(257, "1")+"exit")
		}
	}
	wantNoOut(t, times(256, "drop")+times(512, "1")+"exit")
	wantNoOut(t, "drop "+times(255, "1")+"two exit")
	// The exit's height is 199; what is taken behind it makes Out more.
	wantReturns(t, times(200, "1")+"zbranch,x exit x: "+times(256, "drop")+"halt", 57, 256, 200, 0)
	wantNoOut(t, times(200, "1")+"zbranch,x exit x: "+times(257, "drop")+"halt")
	// A word that never returns has no Out, whatever its height was.
	wantNever(t, "drop "+times(257, "1")+"halt", 1, 256, 0)
	wantNever(t, times(256, "drop")+times(512, "1")+"a: branch,a", 256, 256, 0)
	// Another fault, wherever it lies, comes first.
	wantFault(t, "drop "+times(257, "1")+"zbranch,x 1 exit x: ^op,0", badOpcode)
}
