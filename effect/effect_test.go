package effect_test

import (
	"fmt"
	"strings"
	"testing"

	"wisp/api"
	"wisp/effect"
	"wisp/sources"
	"wisp/tree"
)

// The errors and limits by the document's numbers, not by api's names: a slip in one of the two must show.
const (
	fine      = api.Errno(0)
	badTop    = api.Errno(100)
	badName   = api.Errno(101)
	twice     = api.Errno(102)
	badWord   = api.Errno(103)
	badValue  = api.Errno(106)
	noMain    = api.Errno(107)
	badLeave  = api.Errno(108)
	tooDeep   = api.Errno(109)
	badJoin   = api.Errno(150)
	badLoop   = api.Errno(151)
	badReturn = api.Errno(152)
	badDepth  = api.Errno(153)
	badEffect = api.Errno(154)

	maxData   = 256
	maxReturn = 128
)

// helpers are words that the tests' bodies call: each has a shape, but those whose names begin with bad.
var helpers = `
7 constant c variable v 9 buffer b
: none ;
: two 1 2 ;
: takes drop drop ;
: high 1 2 3 2drop drop ;
: saves 1 >r r> drop ;
: never begin again ;
: eats drop drop halt ;
: badjoin if 1 then ;
: badloop begin 1 again ;
: badreturn r> ;
: baddepth ` + times(257, "1") + `;
`

func pos(line, col int) api.Pos { return api.Pos{Line: line, Col: col} }

// brief is a text as far as a message has room for it.
func brief(s string) string {
	if len(s) > 200 {
		return fmt.Sprintf("%q .. %q of %d bytes", s[:100], s[len(s)-60:], len(s))
	}
	return fmt.Sprintf("%q", s)
}

// taken is the program of a text.
func taken(t *testing.T, src string) api.Program {
	t.Helper()
	p, at, e := tree.Parse(src)
	if e != fine {
		t.Fatalf("the tests' own %s: %d at %v", brief(src), e, at)
	}
	return p
}

// shapesOf is what Shapes tells of a text.
func shapesOf(t *testing.T, src string) []effect.Typed {
	t.Helper()
	l, e := effect.Shapes(taken(t, src))
	if e != fine {
		t.Fatalf("Shapes of %s: error %d", brief(src), e)
	}
	return l
}

// lastOf is what Shapes tells of the last word of a text without main.
func lastOf(t *testing.T, src string) effect.Typed {
	t.Helper()
	l := shapesOf(t, src+" : main ;")
	return l[len(l)-2]
}

// wantShape holds the last word of a text to a shape.
func wantShape(t *testing.T, src string, want api.Shape) {
	t.Helper()
	if x := lastOf(t, src); x.Err != fine || x.Pos != (api.Pos{}) || x.Shape != want {
		t.Errorf("%s: %+v, want %+v", brief(src), x, want)
	}
}

// wantReturns holds the last word of a text to the four numbers of a shape that returns.
func wantReturns(t *testing.T, src string, in, out, data, ret int) {
	t.Helper()
	wantShape(t, src, api.Shape{In: in, Out: out, Data: data, Return: ret})
}

// wantNever holds the last word of a text to the numbers of a shape that never returns.
func wantNever(t *testing.T, src string, in, data, ret int) {
	t.Helper()
	wantShape(t, src, api.Shape{In: in, Data: data, Return: ret, Never: true})
}

// marked is a text without its mark ^, and the place where that stood.
func marked(t *testing.T, src string) (string, api.Pos) {
	t.Helper()
	ahead, behind, is := strings.Cut(src, "^")
	if !is || strings.Contains(behind, "^") {
		t.Fatalf("the tests' own %s has not one mark", brief(src))
	}
	line := strings.LastIndexByte(ahead, '\n') + 1
	return ahead + behind, pos(1+strings.Count(ahead, "\n"), 1+len(ahead)-line)
}

// wantFault holds the last word of a text to an error at the place behind the mark.
func wantFault(t *testing.T, src string, e api.Errno) {
	t.Helper()
	plain, at := marked(t, src)
	if x := lastOf(t, plain); x.Err != e || x.Pos != at || x.Shape != (api.Shape{}) {
		t.Errorf("%s: %+v, want %d at %v", brief(plain), x, e, at)
	}
}

// wantBody, wantBadBody, wantDead and wantAlive hold a body that may call the helpers.
func wantBody(t *testing.T, body string, in, out, data, ret int) {
	t.Helper()
	wantReturns(t, helpers+": x "+body+" ;", in, out, data, ret)
}

func wantBadBody(t *testing.T, body string, e api.Errno) {
	t.Helper()
	wantFault(t, helpers+": x "+body+" ;", e)
}

// wantDead: behind the body nothing is asked, so that what never fits does no harm there.
func wantDead(t *testing.T, body string, in, data, ret int) {
	t.Helper()
	for _, behind := range []string{"", " r>", " i j exit", " badjoin", " if 1 then", strings.Repeat(" drop", 300)} {
		wantNever(t, helpers+": x "+body+behind+" ;", in, data, ret)
	}
}

// wantAlive: behind the body, which leaves so many cells more, the next node is asked.
func wantAlive(t *testing.T, body string, in, height, data, ret int) {
	t.Helper()
	wantBody(t, body, in, in+height, data, ret)
	wantBadBody(t, body+" ^r>", badReturn)
	wantBadBody(t, body+" ^badloop", badLoop)
}

func times(many int, s string) string { return strings.Repeat(s+" ", many) }

func TestExample1(t *testing.T) { // 11.1 to 11.4
	wantReturns(t, ": sq dup * ;", 1, 1, 1, 0)
	wantReturns(t, ": two 1 2 ;", 0, 2, 2, 0)
	wantReturns(t, ": under drop drop 7 ;", 2, 1, 0, 0)
}

func TestExample2(t *testing.T) { // 11.1 to 11.4
	wantReturns(t, ": a >r 1 r> + ;", 1, 1, 1, 1)
	wantFault(t, ": b ^r> ;", badReturn)
	wantFault(t, ": ^c >r ;", badReturn)
	wantReturns(t, ": d 5 0 do i drop loop ;", 0, 0, 2, 2)
	wantFault(t, ": e ^j ;", badReturn)
}

func TestExample3(t *testing.T) { // 11.1 to 11.4
	wantReturns(t, ": f if 1 else 2 then ;", 1, 1, 0, 0)
	wantFault(t, ": g ^if 1 then ;", badJoin)
	wantReturns(t, ": h begin 1 until ;", 0, 0, 1, 0)
	wantReturns(t, ": k begin dup until ;", 1, 1, 1, 0)
	wantFault(t, ": l ^begin 1 again ;", badLoop)
	wantNever(t, ": m begin again ;", 0, 0, 0)
}

func TestExample4(t *testing.T) { // 11.2, 11.3
	wantFault(t, ": ^n if exit then drop ;", badJoin)
	wantReturns(t, ": o if drop exit then drop ;", 2, 0, 0, 0)
}

func TestExample5(t *testing.T) { // 11.2, 11.3, 11.5
	wantNever(t, ": q halt 1 ;", 0, 0, 0)
	wantNever(t, ": m begin again ; : p m drop drop ;", 0, 0, 1)
	wantTypable(t, ": m begin again ; : p m drop drop ; : main p ;")
	wantUntypable(t, ": ^main 1 ;", badEffect)
}

func TestExample6(t *testing.T) { // 11.1
	src := ": t0 1 2 ;"
	for i := 1; i <= 7; i++ {
		src += fmt.Sprintf(" : t%d t%d t%d ;", i, i-1, i-1)
		wantReturns(t, src, 0, 2<<i, 2<<i, i)
	}
	wantFault(t, src+" : t8 t7 ^t7 ;", badDepth)
}

func TestExample7(t *testing.T) { // 11.5
	wantReturns(t, ": bad drop ;", 1, 0, 0, 0)
	wantTypable(t, ": bad drop ; : main begin yield again ;")
}

func TestEveryPrimitive(t *testing.T) { // 11.1, 11.2: its In and Out, from every height
	list := strings.Fields(sources.Effects)
	if len(list) != 3*(55-6) {
		t.Fatalf("the tests' own table has %d words", len(list))
	}
	for i := 0; i < len(list); i += 3 {
		in, out := int(list[i+1][0]-'0'), int(list[i+2][0]-'0')
		for ahead := range 5 {
			wantAlive(t, times(ahead, "1")+list[i], max(0, in-ahead), ahead-in+out, max(ahead, ahead-in+out), 0)
			wantAlive(t, times(ahead, "drop")+list[i], ahead+in, -ahead-in+out, max(0, -ahead-in+out), 0)
		}
	}
}

func TestNumbersAndNames(t *testing.T) { // 11.2: 0 and 1
	for _, w := range []string{"0", "65535", "-1", "c", "v", "b"} {
		wantAlive(t, w, 0, 1, 1, 0)
		wantAlive(t, w+" "+w, 0, 2, 2, 0)
		wantAlive(t, "drop drop "+w, 2, -1, 0, 0)
	}
}

func TestReturnStack(t *testing.T) { // 11.2: what each of its primitives asks, takes and leaves
	wantAlive(t, ">r r>", 1, 0, 0, 1)
	wantAlive(t, "1 >r r>", 0, 1, 1, 1)
	wantAlive(t, ">r r@ r>", 1, 1, 1, 1)
	wantAlive(t, ">r >r r> r>", 2, 0, 0, 2)
	wantAlive(t, ">r r> >r r>", 1, 0, 0, 1)
	wantAlive(t, ">r >r >r r@ r> r> r@ r>", 3, 2, 2, 3)
	wantBadBody(t, "^r>", badReturn)
	wantBadBody(t, "^r@", badReturn)
	wantBadBody(t, "^i", badReturn)
	wantBadBody(t, "^j", badReturn)
	wantBadBody(t, ">r r> ^r>", badReturn)
	wantBadBody(t, ">r r> ^r@", badReturn)
	wantBadBody(t, ">r >r r> r> ^r>", badReturn)
	wantBadBody(t, ">r ^i", badReturn)
	wantBadBody(t, "do ^r> loop", badReturn)
	wantBadBody(t, "do ^r@ loop", badReturn)
	wantBadBody(t, ">r do ^r@ loop r>", badReturn)
	wantBadBody(t, ">r do ^r> loop", badReturn)
	wantBadBody(t, "do 1 >r ^i loop", badReturn)
}

func TestThirdOwnCell(t *testing.T) { // 11.2: j
	wantBadBody(t, "do ^j loop", badReturn)                          // two: Limit Index
	wantBadBody(t, ">r >r ^j", badReturn)                            // two: Saved Saved
	wantBadBody(t, "do 1 >r ^j loop", badReturn)                     // three: Limit
	wantBadBody(t, ">r do ^j loop r>", badReturn)                    // three: Saved
	wantBadBody(t, ">r >r >r ^j", badReturn)                         // three: Saved
	wantBadBody(t, "do 1 >r 2 0 do ^j loop r> drop loop", badReturn) // five: Saved
	wantBadBody(t, ">r >r do ^j loop r> r>", badReturn)              // four: Saved
	wantBadBody(t, "do 1 >r 1 >r 1 >r ^j loop", badReturn)           // five: Saved
	wantAlive(t, "do 1 0 do j drop loop loop", 2, -2, 0, 4)
	wantAlive(t, "do 1 >r 1 >r j drop r> r> 2drop loop", 2, -2, 0, 4)
	wantAlive(t, ">r do 1 0 do j drop loop loop r>", 3, -2, 0, 5)
	wantAlive(t, "do 1 0 do 1 0 do j drop i drop loop j drop loop i drop loop", 2, -2, 0, 6)
}

func TestCallOfAWord(t *testing.T) { // 11.2: by its shape, from every height, with and without own cells
	for _, c := range []struct {
		name               string
		in, out, data, ret int
	}{
		{"none", 0, 0, 0, 0}, {"two", 0, 2, 2, 0}, {"takes", 2, 0, 0, 0}, {"high", 0, 0, 3, 0}, {"saves", 0, 0, 1, 1},
	} {
		for ahead := range 5 {
			wantAlive(t, times(ahead, "1")+c.name, max(0, c.in-ahead), ahead-c.in+c.out, ahead+c.data, c.ret+1)
			wantAlive(t, times(ahead, "drop")+c.name, ahead+c.in, -ahead-c.in+c.out, max(0, c.data-ahead), c.ret+1)
			own := times(ahead, "1 >r") + c.name + " " + times(ahead, "r> drop")
			if ahead > 0 {
				wantAlive(t, own, c.in, c.out-c.in, max(1, c.data, c.out-c.in+1), ahead+1+c.ret)
			}
		}
		wantAlive(t, "2 0 do "+c.name+" "+times(c.out, "drop")+times(c.in, "1")+"loop", c.in, 0, max(2, c.data), 2+1+c.ret)
	}
}

func TestCallOfAWordThatNeverReturns(t *testing.T) { // 11.2: dead behind it
	wantDead(t, "never", 0, 0, 1)
	wantDead(t, "1 never", 0, 1, 1)
	wantDead(t, "drop never", 1, 0, 1)
	wantDead(t, "1 >r never", 0, 1, 2)
	wantDead(t, "eats", 2, 0, 1)
	wantDead(t, "1 eats", 1, 1, 1)
	wantDead(t, "drop eats", 3, 0, 1)
	wantDead(t, "1 2 3 eats", 0, 3, 1)
	wantDead(t, "2 0 do never loop", 0, 2, 3)
	wantAlive(t, "if never then 1", 1, 0, 0, 1)
	wantBody(t, "if 1 exit then eats 5", 3, 3, 0, 1) // what stands behind eats is dead: only the exit has a height
}

func TestCallOfAWordWithoutAShape(t *testing.T) { // 11.2: its error, at the name
	for name, e := range map[string]api.Errno{"badjoin": badJoin, "badloop": badLoop, "badreturn": badReturn, "baddepth": badDepth} {
		wantBadBody(t, "^"+name, e)
		wantBadBody(t, "1 2 ^"+name+" r>", e)
		wantBadBody(t, "if ^"+name+" then", e)
		wantBadBody(t, "begin begin ^"+name+" while repeat again", e)
		wantBadBody(t, times(256, "drop")+"^"+name, e)
		wantBadBody(t, times(256, "1")+"^"+name, e)
		wantFault(t, helpers+": y "+name+" ; : x 1 ^y ;", e) // y has none either
		wantDead(t, "halt "+name, 0, 0, 0)
	}
}

func TestExit(t *testing.T) { // 11.2: no own cells, one height
	wantReturns(t, ": x exit ;", 0, 0, 0, 0)
	wantReturns(t, ": x 1 2 exit ;", 0, 2, 2, 0)
	wantReturns(t, ": x drop drop exit drop ;", 2, 0, 0, 0)
	wantReturns(t, ": x exit 1 exit r> ;", 0, 0, 0, 0) // the second one is dead
	wantReturns(t, ": x if 1 exit then if 2 3 exit then 3 drop 4 5 exit ;", 2, 2, 0, 0)
	wantReturns(t, ": x >r r> exit ;", 1, 1, 0, 1)
	wantFault(t, ": x >r ^exit ;", badReturn)
	wantFault(t, ": x >r >r r> ^exit ;", badReturn)
	wantFault(t, ": x >r if ^exit then r> ;", badReturn)
	wantFault(t, ": x if exit then 1 ^exit ;", badJoin)
	wantFault(t, ": x if exit else 1 ^exit then ;", badJoin)
	wantFault(t, ": x if 1 exit then 1 if 1 exit then ^exit ;", badJoin)
	wantFault(t, ": x begin if 1 exit then 1 if ^exit then again ;", badJoin)
	wantReturns(t, ": x begin dup if exit then again ;", 1, 1, 1, 0)
}

func TestEnd(t *testing.T) { // 11.3: as with an exit, at the definition's place
	wantReturns(t, ": x ;", 0, 0, 0, 0)
	wantReturns(t, ": x if 1 exit then 2 ;", 1, 1, 0, 0)
	wantReturns(t, ": x if 1 exit then drop 2 3 ;", 2, 2, 0, 0) // In grows behind the exit
	wantReturns(t, ": x if 1 exit then halt ;", 1, 1, 0, 0)     // the end is dead, the exit is not
	wantReturns(t, ": x 1 if exit then drop drop 1 1 begin again ;", 2, 2, 1, 0)
	wantFault(t, ": ^x 1 >r ;", badReturn)
	wantFault(t, ": ^x if exit then 1 ;", badJoin)
	wantFault(t, ": ^x if 1 exit then ;", badJoin)
	wantFault(t, ":\n\n ^x 1\n >r\n ;", badReturn)
}

func TestOut(t *testing.T) { // 11.3: In and the height more; 256, and one more
	for in := range 258 {
		drops := times(in, "drop")
		if in == 257 {
			wantFault(t, ": x "+times(256, "drop")+"^drop ;", badDepth)
			continue
		}
		wantReturns(t, ": x "+drops+times(in, "1")+";", in, in, 0, 0)
		wantReturns(t, ": x "+drops+times(256, "1")+";", in, 256, 256-in, 0)
		if in > 0 {
			wantFault(t, ": ^x "+drops+times(257, "1")+";", badDepth)
		}
	}
	wantFault(t, ": ^x drop "+times(257, "1")+"exit ;", badDepth) // at the definition, though it was an exit
	// The exit's height is 199; what is taken behind it makes Out more.
	wantReturns(t, ": x "+times(200, "1")+"if exit then "+times(256, "drop")+"halt ;", 57, 256, 200, 0)
	wantFault(t, ": ^x "+times(200, "1")+"if exit then "+times(257, "drop")+"halt ;", badDepth)
	// A word that never returns has no Out, whatever its height was.
	wantNever(t, ": x drop "+times(257, "1")+"halt ;", 1, 256, 0)
	wantNever(t, ": x "+times(256, "drop")+times(512, "1")+"begin again ;", 256, 256, 0)
}

func TestInAtItsLimit(t *testing.T) { // 11.1: 256, and one more, at each kind of node
	list := strings.Fields(sources.Effects)
	for i := 0; i < len(list); i += 3 {
		in, out := int(list[i+1][0]-'0'), int(list[i+2][0]-'0')
		if in > 0 {
			wantBody(t, times(256-in, "drop")+list[i], 256, out, 0, 0)
			wantBadBody(t, times(257-in, "drop")+"^"+list[i], badDepth)
		}
	}
	for _, c := range []struct {
		node, behind  string
		in, out, rets int
	}{
		{">r", " r>", 1, 1, 1}, {"takes", "", 2, 0, 1}, {"if", " then", 1, 0, 0}, {"if", " 1 else 2 then", 1, 1, 0}, {"begin", " while 1 repeat", 1, 0, 0}, {"do", " loop", 2, 0, 2},
	} {
		wantBody(t, times(256-c.in, "drop")+c.node+c.behind, 256, c.out, 0, c.rets)
		wantBadBody(t, times(257-c.in, "drop")+"^"+c.node+c.behind, badDepth)
		wantBadBody(t, times(256, "drop")+"^"+c.node+c.behind, badDepth)
	}
	wantNever(t, helpers+": x "+times(254, "drop")+"eats ;", 256, 0, 1)
	wantBadBody(t, times(255, "drop")+"^eats", badDepth)
	// What takes nothing may stand there still.
	wantBody(t, times(256, "drop")+"nop 1 drop none two begin 1 until begin 1 while repeat 1 if then 2 0 do i drop loop", 256, 2, 0, 2)
}

func TestDataAtItsLimit(t *testing.T) { // 11.1: 256, and one more, at each kind of node
	for _, w := range []string{"7", "c", "v", "b", "pad"} {
		wantBody(t, times(255, "1")+w, 0, 256, 256, 0)
		wantBadBody(t, times(256, "1")+"^"+w, badDepth)
	}
	for _, w := range []string{"dup", "over", "tuck"} {
		wantBody(t, times(255, "1")+w, 0, 256, 256, 0)
		wantBadBody(t, times(256, "1")+"^"+w, badDepth)
	}
	wantBody(t, times(254, "1")+"2dup", 0, 256, 256, 0)
	wantBadBody(t, times(255, "1")+"^2dup", badDepth)
	wantBadBody(t, times(256, "1")+"^2dup", badDepth)
	wantBody(t, "1 >r "+times(255, "1")+"r>", 0, 256, 256, 1)
	wantBadBody(t, "1 >r "+times(256, "1")+"^r>", badDepth)
	wantBody(t, "1 >r "+times(255, "1")+"r@ drop r>", 0, 256, 256, 1)
	wantBadBody(t, "1 >r "+times(256, "1")+"^r@ r>", badDepth)
	wantBody(t, "2 0 do "+times(255, "1")+"i "+times(256, "drop")+"loop", 0, 0, 256, 2)
	wantBadBody(t, "2 0 do "+times(256, "1")+"^i "+times(257, "drop")+"loop", badDepth)
	wantBody(t, "2 0 do 2 0 do "+times(255, "1")+"j "+times(256, "drop")+"loop loop", 0, 0, 256, 4)
	wantBadBody(t, "2 0 do 2 0 do "+times(256, "1")+"^j "+times(257, "drop")+"loop loop", badDepth)
	for _, c := range []struct {
		name           string
		out, data, ret int
	}{
		{"none", 0, 0, 0}, {"two", 2, 2, 0}, {"high", 0, 3, 0}, {"saves", 0, 1, 1},
	} {
		wantBody(t, times(256-c.data, "1")+c.name, 0, 256-c.data+c.out, 256, c.ret+1)
		if c.data > 0 {
			wantBadBody(t, times(257-c.data, "1")+"^"+c.name, badDepth)
			wantBadBody(t, times(256, "1")+"^"+c.name, badDepth)
		}
	}
	// What leaves no more than it takes may stand there still.
	wantBody(t, times(256, "1")+"swap rot + 1 if then drop 1 none begin 1 and dup until", 0, 255, 256, 1)
}

func TestReturnAtItsLimit(t *testing.T) { // 11.1: 128, and one more, at each kind of node
	saved := func(many int, then string) string {
		return times(many, "1 >r") + then + " " + times(many, "r> drop")
	}
	wantBody(t, saved(127, "1 >r r> drop"), 0, 0, 1, 128)
	wantBadBody(t, saved(128, "1 ^>r r> drop"), badDepth)
	wantBody(t, saved(126, "2 0 do loop"), 0, 0, 2, 128)
	wantBadBody(t, saved(127, "2 0 ^do loop"), badDepth)
	wantBadBody(t, saved(128, "2 0 ^do loop"), badDepth)
	for name, ret := range map[string]int{"none": 0, "saves": 1} {
		wantBody(t, saved(127-ret, name), 0, 0, 1, 128)
		wantBadBody(t, saved(128-ret, "^"+name), badDepth)
		wantBadBody(t, saved(128, "^"+name), badDepth)
	}
	wantNever(t, helpers+": x "+saved(127, "never")+";", 0, 1, 128)
	wantBadBody(t, saved(128, "^never"), badDepth)
	// What lets the own cells be as many as they are may stand there still.
	wantBody(t, saved(128, "1 if r> >r then r@ drop begin r> >r 1 until c drop"), 0, 0, 1, 128)
	src := ": w0 ;"
	for i := 1; i <= 128; i++ {
		src += fmt.Sprintf(" : w%d w%d ;", i, i-1)
		if i > 120 {
			wantReturns(t, src, 0, 0, 0, i)
		}
	}
	wantFault(t, src+" : w129 ^w128 ;", badDepth)
	wantFault(t, src+" : x 1 >r ^w127 r> drop ;", badDepth)
	wantReturns(t, src+" : x 1 >r w126 r> drop ;", 0, 0, 1, 128)
	wantFault(t, src+" : x 2 0 do ^w126 loop ;", badDepth)
	wantReturns(t, src+" : x 2 0 do w125 loop ;", 0, 0, 2, 128)
}

func TestTwoFaultsAtOneNode(t *testing.T) { // 11.1 to 11.3: the one that is asked first
	full := times(256, "1")
	low := times(256, "drop")
	// The return stack's rule, then the step.
	for _, w := range []string{"r>", "r@", "i", "j"} {
		wantBadBody(t, full+"^"+w, badReturn)
	}
	// An exit's own cells, then its height.
	wantBadBody(t, "if exit then 1 1 >r ^exit", badReturn)
	wantFault(t, ": ^x if exit then 1 1 >r ;", badReturn)
	// The step, then the state.
	wantBadBody(t, low+"^begin until", badDepth)
	wantBadBody(t, times(255, "drop")+"^begin until", badLoop)
	wantBadBody(t, low+"^begin while repeat", badDepth)
	wantBadBody(t, times(255, "drop")+"^begin while repeat", badLoop)
	wantBadBody(t, low+"^if 1 then", badDepth)
	wantBadBody(t, times(255, "drop")+"^if 1 then", badJoin)
	wantBadBody(t, times(255, "drop")+"^do 1 loop", badDepth)
	wantBadBody(t, times(254, "drop")+"^do 1 loop", badLoop)
	// The exit's height, then Out.
	high := times(3, "drop") + times(258, "1")
	wantFault(t, ": ^x "+high+"if exit then ;", badDepth)
	wantFault(t, ": ^x "+high+"if exit then 1 ;", badJoin)
	wantFault(t, ": ^x "+high+"if exit then 1 >r ;", badReturn)
}

// dead are bodies that end dead, from whatever state, with a height of their own behind them.
var dead = []string{"halt", "never", "1 2 halt", "drop drop halt 5", "begin again", "1 if halt else never then", "1 >r halt", "eats 1"}

func TestIf(t *testing.T) { // 11.2
	wantAlive(t, "if then", 1, -1, 0, 0)
	wantAlive(t, "1 2 if drop 3 then", 0, 1, 2, 0)
	wantAlive(t, "if drop 1 then", 2, -1, 0, 0) // what the body takes counts, though it gives it back
	wantAlive(t, "if 1 2 2drop then", 1, -1, 1, 0)
	wantAlive(t, "if >r r> then", 2, -1, 0, 1)
	wantAlive(t, "1 >r if r> 1+ >r then r> drop", 1, -1, 1, 1)
	wantBadBody(t, "^if 1 then", badJoin)
	wantBadBody(t, "^if drop then", badJoin)
	wantBadBody(t, "^if 1 >r then", badJoin) // the heights are alike, the own cells are not
	wantBadBody(t, ">r ^if r> drop then r>", badJoin)
	wantBadBody(t, "1 if ^if 1 then 2 then", badJoin)
	wantBadBody(t, "1 1 ^if if drop 1 then then", badJoin)
	for _, b := range dead {
		wantBadBody(t, "if "+b+" then ^r>", badReturn)
		wantBadBody(t, "^if if "+b+" then then", badJoin)
	}
	wantAlive(t, "if 1 2 halt then", 1, -1, 1, 0)
	wantAlive(t, "if drop drop halt 5 then 7", 3, 0, 0, 0)
	wantBody(t, "if 1 exit then 2", 1, 1, 0, 0)
	wantAlive(t, "if 1 >r halt then", 1, -1, 0, 1)
}

func TestIfElse(t *testing.T) { // 11.2
	wantAlive(t, "if else then", 1, -1, 0, 0)
	wantAlive(t, "if 1 2 else 3 4 then", 1, 1, 1, 0)
	wantAlive(t, "if drop else drop then", 2, -2, 0, 0)
	wantAlive(t, "if drop drop 1 else drop then", 3, -2, 0, 0)
	wantAlive(t, "if drop else 1 2 3 2drop 2drop then", 2, -2, 2, 0)
	wantAlive(t, "if 1 >r else 2 3 >r drop then r>", 1, 0, 1, 1)
	wantAlive(t, "1 >r if r> else r> then", 1, 0, 1, 1)
	wantBadBody(t, "^if 1 else then", badJoin)
	wantBadBody(t, "^if else 1 then", badJoin)
	wantBadBody(t, "^if 1 else drop then", badJoin)
	wantBadBody(t, "^if 1 >r else then", badJoin)
	wantBadBody(t, "^if else 1 >r then r>", badJoin)
	for _, b := range dead {
		wantBadBody(t, "if "+b+" else 1 then drop ^r>", badReturn)
		wantBadBody(t, "if 1 else "+b+" then drop ^r>", badReturn)
		wantBadBody(t, "^if 1 else if "+b+" else then then", badJoin)
		for _, other := range dead {
			x := lastOf(t, helpers+": x if "+b+" else "+other+" then r> ;")
			if x.Err != fine || !x.Shape.Never {
				t.Errorf("if %s else %s then is not dead behind it: %+v", b, other, x)
			}
		}
	}
	wantAlive(t, "if halt else 1 2 3 then", 1, 2, 2, 0)
	wantAlive(t, "if 1 2 3 else halt then", 1, 2, 2, 0)
	wantAlive(t, "if 1 2 3 4 halt else drop then", 2, -2, 3, 0) // the dead one's heights count too
	wantAlive(t, "if drop else drop drop drop never then", 4, -2, 0, 1)
	wantAlive(t, "if halt else 1 >r then r>", 1, 0, 0, 1)
	wantAlive(t, "if 1 >r else halt then r>", 1, 0, 0, 1)
	wantDead(t, "if halt else halt then", 1, 0, 0)
	wantDead(t, "if 1 halt else drop halt then", 2, 0, 0)
	wantBody(t, "if 1 exit else 2 exit then r>", 1, 1, 0, 0)
	wantBadBody(t, "if 1 exit else 2 3 ^exit then", badJoin)
	// One behind the other: the first body's fault, then the second's, then the join's.
	wantBadBody(t, "if 1 ^r> else badjoin then", badReturn)
	wantBadBody(t, "if 1 else ^badjoin then", badJoin)
	wantBadBody(t, "if halt r> else ^badloop then", badLoop)
}

func TestUntil(t *testing.T) { // 11.2
	wantAlive(t, "begin 1 until", 0, 0, 1, 0)
	wantAlive(t, "begin dup until", 1, 0, 1, 0)
	wantAlive(t, "1 2 begin drop 3 4 until", 0, 2, 3, 0)
	wantAlive(t, "begin drop drop 1 2 3 until", 2, 0, 1, 0)
	wantAlive(t, ">r begin r> 1+ dup >r until r>", 1, 0, 1, 1)
	wantBadBody(t, "^begin until", badLoop)
	wantBadBody(t, "^begin 1 2 until", badLoop)
	wantBadBody(t, "^begin drop until", badLoop)
	wantBadBody(t, "^begin 1 1 >r until", badLoop)
	wantBadBody(t, ">r ^begin r> until", badLoop)
	wantBadBody(t, "begin ^begin until 1 until", badLoop)
	wantDead(t, "begin halt until", 0, 0, 0)
	wantDead(t, "1 begin 2 halt until", 0, 2, 0)
	wantDead(t, "begin drop never until", 1, 0, 1) // no step: In is not more
	for _, b := range dead {
		x := lastOf(t, helpers+": x begin "+b+" until r> ;")
		if x.Err != fine || !x.Shape.Never {
			t.Errorf("begin %s until is not dead behind it: %+v", b, x)
		}
	}
	wantBody(t, "begin 1 exit until r>", 0, 1, 1, 0)
	wantBody(t, "begin dup if exit then 1 until", 1, 1, 1, 0)
}

func TestWhile(t *testing.T) { // 11.2
	wantAlive(t, "begin 1 while repeat", 0, 0, 1, 0)
	wantAlive(t, "begin while 1 repeat", 1, -1, 0, 0) // on in the state behind while
	wantAlive(t, "begin dup while 1- repeat", 1, 0, 1, 0)
	wantAlive(t, "begin 1 2 3 while 2drop repeat", 0, 2, 3, 0)
	wantAlive(t, "begin drop drop while 1 2 3 repeat", 3, -3, 0, 0)
	wantAlive(t, "begin 1 >r 1 while r> drop repeat r> drop", 0, 0, 1, 1)
	wantAlive(t, ">r begin r> dup while >r repeat", 1, 0, 1, 1)
	wantBadBody(t, "^begin while repeat", badLoop)
	wantBadBody(t, "^begin 1 while 1 repeat", badLoop)
	wantBadBody(t, "^begin 1 while drop repeat", badLoop)
	wantBadBody(t, "^begin 1 while 1 >r repeat", badLoop)
	wantBadBody(t, "^begin 1 1 >r while repeat", badLoop)
	wantBadBody(t, "begin 1 >r 1 while r> drop repeat ^exit", badReturn)
	wantBadBody(t, "begin ^r> while badjoin repeat", badReturn)
	wantBadBody(t, "begin 1 2 while ^badjoin repeat", badJoin)
	wantDead(t, "begin halt while repeat", 0, 0, 0)
	wantDead(t, "begin drop halt while r> repeat", 1, 0, 0) // neither a step nor the second body
	wantAlive(t, "begin 1 while halt repeat", 0, 0, 1, 0)
	wantAlive(t, "begin 1 2 while 3 4 halt repeat", 0, 1, 3, 0)
	wantAlive(t, "begin while halt repeat", 1, -1, 0, 0)
	wantAlive(t, "begin 1 while never repeat", 0, 0, 1, 1)
	for _, b := range dead {
		for _, other := range append([]string{"", "1", "r>"}, dead...) {
			x := lastOf(t, helpers+": x begin "+b+" while "+other+" repeat r> ;")
			if x.Err != fine || !x.Shape.Never {
				t.Errorf("begin %s while %s repeat is not dead behind it: %+v", b, other, x)
			}
		}
		wantBadBody(t, "begin 1 2 while "+b+" repeat ^r>", badReturn)
	}
	wantBody(t, "begin dup while 1- exit repeat", 1, 1, 1, 0)
	wantBody(t, "begin 1 exit while badjoin repeat r>", 0, 1, 1, 0)
}

func TestAgain(t *testing.T) { // 11.2
	wantDead(t, "begin again", 0, 0, 0)
	wantDead(t, "begin 1 2 2drop again", 0, 2, 0)
	wantDead(t, "1 begin drop drop 1 2 again", 1, 1, 0)
	wantDead(t, ">r begin r> 1+ >r again", 1, 0, 1)
	wantDead(t, "begin 1 >r r> drop again", 0, 1, 1)
	wantBadBody(t, "^begin 1 again", badLoop)
	wantBadBody(t, "^begin drop again", badLoop)
	wantBadBody(t, "^begin 1 >r again", badLoop)
	wantBadBody(t, ">r ^begin r> drop again", badLoop)
	wantBadBody(t, "begin ^begin 1 again again", badLoop)
	for _, b := range dead {
		x := lastOf(t, helpers+": x begin "+b+" again r> ;")
		if x.Err != fine || !x.Shape.Never {
			t.Errorf("begin %s again is not dead behind it: %+v", b, x)
		}
	}
	wantDead(t, "begin 1 halt again", 0, 1, 0)
	wantBody(t, "begin dup if exit then 1- again r>", 1, 1, 1, 0)
	wantBody(t, "begin 1 exit again r>", 0, 1, 1, 0)
}

func TestDo(t *testing.T) { // 11.2
	wantAlive(t, "do loop", 2, -2, 0, 2)
	wantAlive(t, "1 do loop", 1, -1, 1, 2)
	wantAlive(t, "5 0 do i drop loop", 0, 0, 2, 2)
	wantAlive(t, "5 0 do drop 1 loop", 1, 0, 2, 2)
	wantAlive(t, "5 0 do 1 2 3 2drop drop loop", 0, 0, 3, 2)
	wantAlive(t, "do 1 >r r> drop loop", 2, -2, 0, 3)
	wantAlive(t, ">r do loop r>", 3, -2, 0, 3)
	wantAlive(t, "do loop do loop", 4, -4, 0, 2) // the two have gone again
	wantAlive(t, "do 1 0 do loop loop", 2, -2, 0, 4)
	wantAlive(t, "do 1 if i else 0 then drop loop", 2, -2, 0, 2)
	wantAlive(t, "do i begin 1- dup until drop loop", 2, -2, 0, 2)
	wantBadBody(t, "^do 1 loop", badLoop)
	wantBadBody(t, "^do drop loop", badLoop)
	wantBadBody(t, "^do i loop", badLoop)
	wantBadBody(t, "^do 1 >r loop", badLoop)
	wantBadBody(t, "do ^do i loop 1 loop", badLoop)
	wantBadBody(t, "do loop ^i", badReturn)
	wantBadBody(t, "do loop ^r>", badReturn)
	wantBadBody(t, "do 1 0 do loop ^j loop", badReturn)
	wantFault(t, ": ^x >r do loop ;", badReturn)
	wantDead(t, "do halt loop", 2, 0, 2)
	wantDead(t, "5 0 do 1 halt loop", 0, 2, 2)
	wantDead(t, "do 1 >r never loop", 2, 0, 4)
	for _, b := range dead {
		x := lastOf(t, helpers+": x do "+b+" loop r> ;")
		if x.Err != fine || !x.Shape.Never {
			t.Errorf("do %s loop is not dead behind it: %+v", b, x)
		}
	}
}

func TestDeadPlaces(t *testing.T) { // 11.2: nodes there are passed over, whatever they are and wherever they stand
	for _, b := range []string{
		"r>", "r@", "i", "j", ">r", "badjoin", "badloop", "badreturn", "baddepth", "never", "eats", "exit", "1 exit", "halt",
		"if 1 then", "if else 1 then", "begin until", "begin 1 again", "begin while repeat", "do i loop", "do r> loop", "1 >r exit",
		times(257, "1"), times(257, "drop"), times(129, ">r"), times(128, "1 >r") + "none",
	} {
		for _, d := range []string{"halt", "begin again", "never", "1 if halt else halt then", "begin halt until", "begin halt while repeat", "1 0 do halt loop"} {
			x := lastOf(t, helpers+": x "+d+" ;")
			y := lastOf(t, helpers+": x "+d+" "+b+" ;")
			if x.Err != fine || !x.Shape.Never || x != y {
				t.Errorf("%s %s: %+v, want %+v", d, brief(b), y, x)
			}
		}
		wantBody(t, "exit "+b, 0, 0, 0, 0)
		wantBody(t, "1 2 exit "+b, 0, 2, 2, 0)
		wantBody(t, "if halt "+b+" then", 1, 0, 0, 0)
		wantBody(t, "if else halt "+b+" then", 1, 0, 0, 0)
		wantBody(t, "begin 1 while halt "+b+" repeat", 0, 0, 1, 0)
	}
}

func TestFirstFault(t *testing.T) { // 11.3: the first one that is met ends the word
	wantBadBody(t, "^r> badjoin badloop", badReturn)
	wantBadBody(t, "1 drop ^badjoin r> badloop", badJoin)
	wantBadBody(t, "^begin 1 again r>", badLoop)
	wantBadBody(t, "^if 1 then r>", badJoin)
	wantBadBody(t, "begin do if ^r> then loop 1 until", badReturn)
	wantBadBody(t, "if ^badloop 1 then", badLoop)
	wantFault(t, ": x\n 1\n  if\n   ^r> then ;", badReturn)
	wantFault(t, "( one\ntwo ) : x \\ a remark\n  1 ^if 2\n then ;", badJoin)
}

// wantTypable and wantUntypable hold Typable of a text; the mark is where the fault is told.
func wantTypable(t *testing.T, src string) {
	t.Helper()
	if e, at := effect.Typable(taken(t, src)); e != fine || at != (api.Pos{}) {
		t.Errorf("Typable(%s) = %d, %v", brief(src), e, at)
	}
}

func wantUntypable(t *testing.T, src string, want api.Errno) {
	t.Helper()
	plain, place := marked(t, src)
	if e, at := effect.Typable(taken(t, plain)); e != want || at != place {
		t.Errorf("Typable(%s) = %d, %v, want %d, %v", brief(plain), e, at, want, place)
	}
}

func TestShapesInOrder(t *testing.T) { // 11.4: one a word, in the order of the definitions, no others
	src := "1 constant c : z 1 ; variable v : bad r> ; : main z drop ; 3 buffer b : a drop bad ; : last v b ;"
	l := shapesOf(t, src)
	want := []effect.Typed{
		{Name: "z", Shape: api.Shape{Out: 1, Data: 1}},
		{Name: "bad", Err: badReturn, Pos: pos(1, 1+strings.Index(src, "r>"))},
		{Name: "main", Shape: api.Shape{Data: 1, Return: 1}},
		{Name: "a", Err: badReturn, Pos: pos(1, 1+strings.LastIndex(src, "bad"))},
		{Name: "last", Shape: api.Shape{Out: 2, Data: 2}},
	}
	if fmt.Sprint(l) != fmt.Sprint(want) {
		t.Errorf("Shapes = %+v, want %+v", l, want)
	}
}

func TestRefused(t *testing.T) { // 11.4, 11.5: tree.Check's error, without shapes, at the zero place
	word := func(name string, body ...api.Node) api.Def {
		return api.Def{Kind: 1, Name: name, Body: body, Pos: pos(3, 4)}
	}
	main := word("main")
	deep := api.Node{Kind: 9, Pos: pos(5, 6)}
	for range 33 {
		deep = api.Node{Kind: 7, Then: []api.Node{deep}, Pos: pos(5, 6)}
	}
	for _, c := range []struct {
		e api.Errno
		p api.Program
	}{
		{noMain, api.Program{}},
		{noMain, api.Program{Defs: []api.Def{word("a")}}},
		{noMain, api.Program{Defs: []api.Def{{Kind: 2, Name: "main"}}}},
		{badTop, api.Program{Defs: []api.Def{{Kind: 9, Name: "a"}, main}}},
		{badTop, api.Program{Defs: []api.Def{word("main", api.Node{Kind: 10, Pos: pos(1, 1)})}}},
		{badTop, api.Program{Defs: []api.Def{word("main", api.Node{Kind: 2, Name: "main", Pos: pos(1, 1)})}}},
		{badName, api.Program{Defs: []api.Def{word("dup"), main}}},
		{twice, api.Program{Defs: []api.Def{main, main}}},
		{badWord, api.Program{Defs: []api.Def{word("main", api.Node{Kind: 3, Name: "main", Pos: pos(1, 1)})}}},
		{badWord, api.Program{Defs: []api.Def{word("main", api.Node{Kind: 3, Name: "b"}), word("b")}}},
		{badWord, api.Program{Defs: []api.Def{word("main", api.Node{Kind: 1, Op: 8, Pos: pos(1, 1)})}}},
		{badLeave, api.Program{Defs: []api.Def{word("main", api.Node{Kind: 8, Then: []api.Node{{Kind: 9}}})}}},
		{tooDeep, api.Program{Defs: []api.Def{word("main", deep)}}},
		{badValue, api.Program{Defs: []api.Def{main}, Banks: []api.Bank{{Num: 16}}}},
		{twice, api.Program{Defs: []api.Def{main}, Banks: []api.Bank{{Num: 3}, {Num: 3}}}},
	} {
		if l, e := effect.Shapes(c.p); e != c.e || len(l) != 0 {
			t.Errorf("Shapes(%+v) = %v, %d, want %d", c.p, l, e, c.e)
		}
		if e, at := effect.Typable(c.p); e != c.e || at != (api.Pos{}) {
			t.Errorf("Typable(%+v) = %d, %v, want %d", c.p, e, at, c.e)
		}
	}
}

func TestPlacesThatNobodyParsed(t *testing.T) { // 11.2, 11.5: places are told as they were handed in
	fault := api.Node{Kind: 1, Op: 56, Pos: pos(-7, 1<<40)}
	p := api.Program{Defs: []api.Def{{Kind: 1, Name: "main", Body: []api.Node{fault}}}}
	if l, e := effect.Shapes(p); e != fine || len(l) != 1 || l[0] != (effect.Typed{Name: "main", Err: badReturn, Pos: pos(-7, 1<<40)}) {
		t.Errorf("Shapes = %+v, %d", l, e)
	}
	if e, at := effect.Typable(p); e != badReturn || at != pos(-7, 1<<40) {
		t.Errorf("Typable = %d, %v", e, at)
	}
	p.Defs[0].Pos, p.Defs[0].Body[0].Op = pos(0, -1), 13
	if e, at := effect.Typable(p); e != badEffect || at != pos(0, -1) {
		t.Errorf("Typable = %d, %v", e, at)
	}
}

func TestMainTakesOrLeaves(t *testing.T) { // 11.5: ErrEffect, at main's definition
	for _, body := range []string{"", "yield", "1 drop", "begin yield again", "begin 1 drop yield again", "halt", "1 halt", "1 begin again", "1 if exit then halt", "pad if halt then", "1 2 3 halt exit"} {
		wantTypable(t, ": main "+body+" ;")
		wantTypable(t, ": a 1 ; 2 constant c\n: main "+body+" ; : b ;")
	}
	for _, body := range []string{"1", "drop", "dup", "swap", "drop 1", "drop halt", "if halt then halt", "drop begin again", "1 exit", "drop exit", "2drop 1 begin again", "if 1 exit then halt", "1 if 1 exit then halt"} {
		wantUntypable(t, ": ^main "+body+" ;", badEffect)
		wantUntypable(t, ": a 1 ; 2 constant c\n: ^main "+body+" ; : b ;", badEffect)
	}
	wantTypable(t, ": never begin again ; : main 1 2 never ;")
	wantTypable(t, ": eats drop drop halt ; : main 1 2 eats ;")
	wantUntypable(t, ": eats drop drop halt ; : ^main 1 eats ;", badEffect)
	wantUntypable(t, ": two 1 2 ; : ^main two drop ;", badEffect)
}

func TestWhereMainLeads(t *testing.T) { // 11.5: which words are asked
	// Not at all.
	wantTypable(t, ": bad r> ; : main ;")
	wantTypable(t, ": main ; : bad r> ;")
	wantTypable(t, ": bad r> ; : a bad ; : b a ; : main ;")
	wantTypable(t, ": bad r> ; : good ; : a good bad ; : main good ;")
	wantTypable(t, ": good ; : main good ; : bad main r> ; : worse main bad ;")
	wantTypable(t, "3 constant good : bad r> ; : main good drop ;")
	// By itself.
	wantUntypable(t, ": main ^r> ;", badReturn)
	wantUntypable(t, ": ^main 1 >r ;", badReturn)
	wantUntypable(t, ": main ^if 1 then ;", badJoin)
	wantUntypable(t, ": main ^begin 1 again ;", badLoop)
	wantUntypable(t, ": main "+times(256, "1")+"^1 ;", badDepth)
	wantUntypable(t, ": bad r> ; : main 1 ^r> ;", badReturn)
	// Straight, and through others; at the word that has the fault, not at one that calls it.
	wantUntypable(t, ": bad ^r> ; : main bad ;", badReturn)
	wantUntypable(t, ": bad ^if 1 then ; : a bad ; : main a ;", badJoin)
	wantUntypable(t, ": bad ^begin 1 again ; : a bad ; : b a ; : c b ; : main 1 2 c ;", badLoop)
	wantUntypable(t, ": bad ^r> ; : a begin 1 while bad repeat ; : main a ;", badReturn)
	// In dead places, where the one that calls it has a shape.
	wantUntypable(t, ": bad ^r> ; : main halt bad ;", badReturn)
	wantUntypable(t, ": bad ^r> ; : main begin again bad ;", badReturn)
	wantUntypable(t, ": bad ^r> ; : a exit bad ; : main a ;", badReturn)
	wantUntypable(t, ": bad ^r> ; : a exit bad ; : main halt a ;", badReturn)
	wantUntypable(t, ": bad ^r> ; : a halt bad ; : b exit a ; : main halt 1 if 2 else begin b again then ;", badReturn)
	for _, body := range []string{"if bad then", "if else bad then", "if bad else then", "begin bad until", "begin bad while repeat", "begin while bad repeat", "begin bad again", "do bad loop", "if begin while do if else bad then loop repeat then"} {
		wantUntypable(t, ": bad ^r> ; : main halt "+body+" ;", badReturn)
	}
	// The first one in the order of definitions, whichever is named first.
	wantUntypable(t, ": a ^r> ; : b if 1 then ; : main b a ;", badReturn)
	wantUntypable(t, ": a r> ; : b ^if 1 then ; : c begin 1 again ; : main halt c b ;", badJoin)
	wantUntypable(t, ": a ^r> ; : main if 1 then a ;", badReturn)
	wantUntypable(t, ": a ^r> ; : b halt a ; : c begin 1 again ; : main 5 c b ;", badReturn)
	wantUntypable(t, ": a r> ; : b ^begin 1 again ; : c a ; : main halt b ;", badLoop)
	// Ahead of what main takes and leaves.
	wantUntypable(t, ": a ^r> ; : main 1 exit a ;", badReturn)
}
