package infer_test

import (
	"math"
	"strings"
	"testing"

	"wisp/api"
	"wisp/emit"
	"wisp/flow"
	"wisp/infer"
	"wisp/layout"
	"wisp/sources"
	"wisp/tree"
)

// lastOf is the last word of a text without main, by its code.
func lastOf(t *testing.T, src string) flow.Word {
	t.Helper()
	p, at, e := tree.Parse(src + " : main ;")
	places, _, _, _, f := layout.Of(p)
	c, g := emit.Cart(p)
	if e != fine || f != fine || g != fine {
		t.Fatalf("the tests' own %s: %d at %v, %d, %d", src, e, at, f, g)
	}
	c.Entry = places[len(places)-2].At
	words, v := flow.Words(c)
	if v.Err != fine || len(words) != 1 {
		t.Fatalf("the tests' own %s: %v, %v", src, words, v)
	}
	return words[0]
}

func wantSource(t *testing.T, src string, want api.Shape) {
	t.Helper()
	if s, v := infer.Shape(lastOf(t, src), nil); s != want || v != (api.Verdict{}) {
		t.Errorf("%s: %+v, %v, want %+v", src, s, v, want)
	}
}

func wantBadSource(t *testing.T, src string, e api.Errno, at uint16) {
	t.Helper()
	if s, v := infer.Shape(lastOf(t, src), nil); s != (api.Shape{}) || v != (api.Verdict{Err: e, At: at}) {
		t.Errorf("%s: %+v, %v, want {%d %d}", src, s, v, e, at)
	}
}

func TestExample1(t *testing.T) { // 17.1
	wantSource(t, ": sq dup * ;", api.Shape{In: 1, Out: 1, Data: 1})
	wantSource(t, ": x begin yield again ;", api.Shape{Never: true})
	wantSource(t, ": a >r 1 r> + ;", api.Shape{In: 1, Out: 1, Data: 1, Return: 1})
}

func TestExample2(t *testing.T) { // 17.1
	wantBadSource(t, ": b r> ;", badReturn, 130)
	wantBadSource(t, ": c >r ;", badReturn, 132)
	wantBadSource(t, ": l begin 1 again ;", badLoop, 134)
	wantBadSource(t, ": g if 1 then ;", badJoin, 134)
}

func TestExample3(t *testing.T) { // 17.1
	for _, at := range []uint16{0, 1, 8, 128, 65533, 65534, 65535} {
		if s, v := infer.Shape(flow.Word{At: at}, nil); s != (api.Shape{}) || v != (api.Verdict{Err: badFall, At: at + 2}) {
			t.Errorf("a word at %d without instructions: %v, %v", at, s, v)
		}
	}
	call := flow.Word{At: 8, Instrs: []flow.Instr{{At: 10, Op: 1, Word: 20, Next: 12}, {At: 12, Op: 8, Next: 14}}}
	for _, known := range []map[uint16]api.Shape{nil, {}, {22: {}, 18: {}, 10: {}, 12: {}, 8: {}, 0: {}}} {
		if s, v := infer.Shape(call, known); s != (api.Shape{}) || v != (api.Verdict{Err: badCall, At: 10}) {
			t.Errorf("a call of what is not in %v: %v, %v", known, s, v)
		}
	}
}

func TestExample4(t *testing.T) { // 17.1
	wantBadSource(t, ": n if exit then drop ;", badJoin, 138)
}

func TestEveryPrimitive(t *testing.T) { // 17.1: its In and Out by DOC.md's table, from heights of all sorts
	rows := strings.Fields(sources.Effects + " const 0 1 7 0 1")
	if len(rows) != 3*(55-6+2) {
		t.Fatalf("the tests' own table has %d words", len(rows))
	}
	for i := 0; i < len(rows); i += 3 {
		name, in, out := rows[i], int(rows[i+1][0]-'0'), int(rows[i+2][0]-'0')
		for ahead := range 5 {
			more := max(0, in-ahead)
			wantReturns(t, times(ahead, "1")+name+" exit", more, more+ahead-in+out, max(ahead, ahead-in+out), 0)
			wantReturns(t, times(ahead, "drop")+name+" exit", ahead+in, out, max(0, -ahead-in+out), 0)
		}
	}
}

func TestPrimitivesOfControl(t *testing.T) { // 17.1: those that the table sources.Effects has not
	wantReturns(t, "exit", 0, 0, 0, 0)
	wantReturns(t, "branch,x gap x: exit", 0, 0, 0, 0)
	wantReturns(t, "zbranch,x x: exit", 1, 0, 0, 0)
	wantReturns(t, "1 zbranch,x nop x: exit", 0, 0, 1, 0)
	wantNever(t, "halt", 0, 0, 0)
	wantNever(t, "1 2 halt", 0, 2, 0)
	wantNever(t, "2drop halt", 2, 0, 0)
	wantReturns(t, ">r r> exit", 1, 1, 0, 1)
	wantReturns(t, ">r r@ r> exit", 1, 2, 1, 1)
	wantReturns(t, "do a: loop,a exit", 2, 0, 0, 2)
	wantReturns(t, "do a: i drop loop,a exit", 2, 0, 0, 2)
	wantReturns(t, "2 0 do a: i i 2drop loop,a exit", 0, 0, 2, 2)
	wantReturns(t, "2 0 do a: 3 0 do b: j i 2drop loop,b loop,a exit", 0, 0, 2, 4)
	wantNever(t, "a: yield branch,a", 0, 0, 0)
}

func TestNoInstruction(t *testing.T) { // 17.1, 1: ErrFall where a state comes to
	wantFault(t, "^", badFall)
	wantFault(t, "nop ^", badFall)
	wantFault(t, "1 ^ gap exit", badFall)
	wantFault(t, "branch,x exit x: ^", badFall)
	wantFault(t, "zbranch,x ^ gap x: exit", badFall)
	wantFault(t, "zbranch,x exit x: ^", badFall)
	wantFault(t, "2 0 do a: loop,a ^", badFall)
	wantFault(t, "none ^", badFall)
	// An odd address, and one within an operand, is as good as any other.
	odd := flow.Word{At: 7, Instrs: []flow.Instr{{At: 9, Op: 12, Next: 10}, {At: 10, Op: 13, Next: 13}, {At: 13, Op: 8}}}
	if s, v := infer.Shape(odd, nil); s != (api.Shape{In: 1, Out: 1, Data: 1}) || v != (api.Verdict{}) {
		t.Errorf("odd addresses: %v, %v", s, v)
	}
	odd.Instrs[1].Next = 14
	if s, v := infer.Shape(odd, nil); s != (api.Shape{}) || v != (api.Verdict{Err: badFall, At: 14}) {
		t.Errorf("beside an odd address: %v, %v", s, v)
	}
}

func TestNoPrimitive(t *testing.T) { // 17.1, 2: ErrOpcode
	for _, text := range []string{"^op,0", "^op,64", "^op,-1", "nop ^op,65 exit", "zbranch,x exit x: ^op,-63", "^op,256"} {
		wantFault(t, text, badOpcode)
	}
	for _, op := range []int{math.MinInt, math.MaxInt, 1 << 16, 1<<16 + 8, 1<<32 + 8, -8} {
		w := flow.Word{At: 8, Instrs: []flow.Instr{{At: 10, Op: op, Next: 12}, {At: 12, Op: 8}}}
		if s, v := infer.Shape(w, nil); s != (api.Shape{}) || v != (api.Verdict{Err: badOpcode, At: 10}) {
			t.Errorf("an Op of %d: %v, %v", op, s, v)
		}
	}
}

func TestTwoAtOneAddress(t *testing.T) { // 17.1: the first of the list counts, wherever the others stand
	first, exit := flow.Instr{At: 10, Op: 12, Next: 12}, flow.Instr{At: 12, Op: 8}
	for _, other := range []flow.Instr{{At: 10, Op: 99}, {At: 10, Op: 8}, {At: 10, Op: 1, Word: 4}, {At: 10, Op: 56, Next: 12}, {At: 10, Op: 3, Next: 40}, {At: 10}} {
		for _, list := range [][]flow.Instr{{first, other, exit}, {first, exit, other}, {exit, first, other, other}} {
			if s, v := infer.Shape(flow.Word{At: 8, Instrs: list}, nil); s != (api.Shape{In: 1, Out: 2, Data: 1}) || v != (api.Verdict{}) {
				t.Errorf("%v: %v, %v", list, s, v)
			}
		}
		alone, u := infer.Shape(flow.Word{At: 8, Instrs: []flow.Instr{other, exit}}, nil)
		for _, list := range [][]flow.Instr{{other, first, exit}, {other, exit, first}, {exit, other, other, first}} {
			if s, v := infer.Shape(flow.Word{At: 8, Instrs: list}, nil); s != alone || v != u {
				t.Errorf("%v: %v, %v, want %v, %v", list, s, v, alone, u)
			}
		}
	}
}

func TestBehindTheLastAddress(t *testing.T) { // 17.1: addresses go on at 0
	for field, first := range map[uint16]uint16{65535: 1, 65534: 0, 65533: 65535, 65532: 65534} {
		w := flow.Word{At: field, Instrs: []flow.Instr{{At: first, Op: 12, Next: 77}, {At: 77, Op: 8}}}
		if s, v := infer.Shape(w, nil); s != (api.Shape{In: 1, Out: 2, Data: 1}) || v != (api.Verdict{}) {
			t.Errorf("a code field at %d: %v, %v", field, s, v)
		}
	}
	// A text that goes round: its first instructions lie at the end, the others at the beginning.
	for _, field := range []uint16{65534, 65532, 65530, 65528, 65526, 65524, 65520} {
		w := written(t, field, callees, "2 0 do a: i drop loop,a dup exit")
		holdShape(t, "round the end", w, api.Shape{In: 1, Out: 2, Data: 2, Return: 2}, api.Verdict{})
	}
	// The address that is told, and the word's own, go on too; and which one is above is asked of the numbers.
	w := written(t, 65530, callees, "1 ^exit r>")
	holdShape(t, "a way that ends ahead of the end", w, api.Shape{Out: 1, Data: 1}, api.Verdict{})
	w = written(t, 65530, callees, "1 ^r> exit")
	holdShape(t, "a fault at 0", w, api.Shape{}, api.Verdict{Err: badReturn, At: 0})
	w = written(t, 65534, callees, "drop "+times(257, "1")+"exit")
	holdShape(t, "an Out of 257", w, api.Shape{}, api.Verdict{Err: badDepth, At: 65534})
	w = written(t, 65530, callees, "a: 1 ^branch,a")
	holdShape(t, "from 0 back to 65532, which is above it", w, api.Shape{}, api.Verdict{Err: badJoin, At: 0})
	w = written(t, 65526, callees, "zbranch,x ^1 x: exit")
	holdShape(t, "from 65532 on to 0, which is not above it", w, api.Shape{}, api.Verdict{Err: badLoop, At: 65532})
}

func TestWhichAddressIsLookedAtFirst(t *testing.T) { // 17.1: the lowest at which a state stands
	wantFault(t, "zbranch,high ^r> exit high: i exit", badReturn)
	wantFault(t, "zbranch,high exit high: ^i exit", badReturn)
	wantFault(t, "branch,mid low: ^r> exit mid: zbranch,low op,0", badReturn)
	wantFault(t, "branch,mid low: ^op,0 mid: zbranch,low r> exit", badOpcode)
	wantFault(t, "branch,mid low: exit mid: zbranch,low ^op,0", badOpcode)
	// One that is found later, and is lower than the one that waits.
	wantFault(t, "zbranch,far nop nop ^r> exit far: op,0", badReturn)
	wantFault(t, "branch,start low: ^r> exit start: zbranch,far branch,low far: op,0", badReturn)
	wantFault(t, "branch,start low: ^ gap start: zbranch,far nop branch,low far: op,0", badFall)
	wantFault(t, "branch,start low: exit start: zbranch,far branch,low far: ^op,0", badOpcode)
	// What no state comes to is not looked at, be it lower or higher.
	wantReturns(t, "branch,start op,0 r> start: exit op,0 r>", 0, 0, 0, 0)
	// Ahead of the word itself.
	for _, at := range []uint16{0, 6, 8, 9} {
		w := flow.Word{At: 8, Instrs: []flow.Instr{{At: 10, Op: 5, Operand: at, Next: 14}, {At: 14, Op: 0}, {At: at, Op: 56}}}
		if s, v := infer.Shape(w, nil); s != (api.Shape{}) || v != (api.Verdict{Err: badReturn, At: at}) {
			t.Errorf("r> at %d: %v, %v", at, s, v)
		}
	}
}

func TestOneAddressIsLookedAtOnce(t *testing.T) { // 17.1, R1: rounds end
	wantNever(t, "a: branch,a", 0, 0, 0)
	wantNever(t, "a: nop~a", 0, 0, 0)
	wantNever(t, "a: none~a", 0, 0, 1)
	wantNever(t, "a: 1 drop branch,b b: branch,a", 0, 1, 0)
	wantNever(t, "a: dup zbranch,a dup zbranch,a branch,a", 1, 1, 0)
	wantReturns(t, "a: dup zbranch,b nop branch,a b: exit", 1, 1, 1, 0)
	wantReturns(t, "1 0 do a: loop,a exit", 0, 0, 2, 2)
}

// withNumber are the shapes that have this number, each in another field.
func withNumber(x int) map[string]api.Shape {
	return map[string]api.Shape{"In": {In: x}, "Out": {Out: x}, "Data": {Data: x}, "Return": {Return: x}}
}

func TestKnownShapesThatCountAsNone(t *testing.T) { // 17.1, 3: with a number that is not 0 to 256; ErrCall, also where the number would be too great for the step
	for _, x := range []int{-1, 257, -256, 1000, math.MinInt, math.MaxInt} {
		for _, s := range withNumber(x) {
			for _, never := range []bool{false, true} {
				s.Never = never
				w := map[string]api.Shape{"w": s, "v": {}}
				wantFaultWith(t, w, "nop ^w exit", badCall)
				// It is not called here.
				wantWith(t, w, "v exit w", api.Shape{Return: 1})
			}
		}
	}
	// One number is enough, whatever the others are.
	wantFaultWith(t, map[string]api.Shape{"w": {In: 1, Out: 1, Data: 257, Return: 1}}, "^w exit", badCall)
	wantFaultWith(t, map[string]api.Shape{"w": {In: 256, Out: 256, Data: 256, Return: -1}}, "^w exit", badCall)
}

func TestKnownShapesAtTheirLimits(t *testing.T) { // 17.1, 3: 0 and 256 count
	for _, s := range withNumber(0) {
		wantWith(t, map[string]api.Shape{"w": s}, "w exit", api.Shape{Return: 1})
	}
	for field, want := range map[string]api.Shape{
		"In":   {In: 256, Return: 1},
		"Out":  {Out: 256, Data: 256, Return: 1},
		"Data": {Data: 256, Return: 1},
	} {
		s := withNumber(256)[field]
		wantWith(t, map[string]api.Shape{"w": s}, "w exit", want)
		s.Never, want.Never, want.Out = true, true, 0
		wantWith(t, map[string]api.Shape{"w": s}, "w exit", want)
	}
	// It is known, and its Return is too much for the step.
	for _, x := range []int{128, 129, 256} {
		wantFaultWith(t, map[string]api.Shape{"w": {Return: x}}, "^w exit", badDepth)
	}
	wantWith(t, map[string]api.Shape{"w": {In: 256, Out: 256, Data: 256, Return: 127}}, "w exit", api.Shape{In: 256, Out: 256, Data: 256, Return: 128})
}

func TestCalls(t *testing.T) { // 17.1, 5: by the shape, from every height, with own cells and without
	for name, s := range callees {
		if s.Never {
			continue
		}
		for ahead := range 5 {
			more := max(0, s.In-ahead)
			wantReturns(t, times(ahead, "1")+name+" exit", more, more+ahead-s.In+s.Out, max(ahead, ahead+s.Data, ahead-s.In+s.Out), 1+s.Return)
			wantReturns(t, times(ahead, "drop")+name+" exit", ahead+s.In, s.Out, max(0, s.Data-ahead, s.Out-s.In-ahead), 1+s.Return)
			if ahead > 0 {
				own := times(ahead, "1 >r") + name + " " + times(ahead, "r> drop") + "exit"
				wantReturns(t, own, s.In, s.Out, max(1, s.Data, s.Out-s.In+1), ahead+1+s.Return)
			}
		}
		wantReturns(t, "2 0 do a: "+name+" "+times(s.Out, "drop")+times(s.In, "1")+"loop,a exit", s.In, s.In, max(2, s.Data, s.Out-s.In), 3+s.Return)
	}
	// What it leaves counts, whatever its Data says; and its Data, whatever it takes.
	wantWith(t, map[string]api.Shape{"w": {In: 1, Out: 9, Data: 2}}, "1 w exit", api.Shape{Out: 9, Data: 9, Return: 1})
	wantWith(t, map[string]api.Shape{"w": {In: 9, Out: 1, Data: 2}}, "1 w exit", api.Shape{In: 8, Out: 1, Data: 3, Return: 1})
}

func TestCallsOfWhatNeverReturns(t *testing.T) { // 17.1, 6: there is no way on
	for _, behind := range []string{"", " exit", " op,0", " r>", " drop exit"} {
		wantNever(t, "never"+behind, 0, 0, 1)
		wantNever(t, "1 never"+behind, 0, 1, 1)
		wantNever(t, "drop never"+behind, 1, 0, 1)
		wantNever(t, "1 >r never"+behind, 0, 1, 2)
		wantNever(t, "2 0 do never"+behind, 0, 2, 3)
		wantNever(t, "eats"+behind, 2, 0, 1)
		wantNever(t, "1 eats"+behind, 1, 1, 1)
		wantNever(t, "drop eats"+behind, 3, 0, 1)
		wantNever(t, "1 2 3 eats"+behind, 0, 3, 1)
	}
	wantReturns(t, "zbranch,x never x: 1 exit", 1, 1, 0, 1)
	wantReturns(t, "zbranch,x 1 exit x: eats", 3, 3, 0, 1)
	// It does come to its Next, if it returns, and that must be alike.
	wantFault(t, "zbranch,x 1 ^none x: exit", badJoin)
	wantReturns(t, "zbranch,x 1 never x: exit", 1, 0, 0, 1)
	// What such a shape leaves is reckoned with, too.
	wantWith(t, map[string]api.Shape{"w": {Out: 5, Never: true}}, "1 w", api.Shape{Data: 6, Return: 1, Never: true})
}
