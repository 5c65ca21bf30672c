package meaning_test

import (
	"strconv"
	"strings"
	"testing"

	"wisp/api"
	"wisp/token"
)

// labels are a source's words by their places; one that has stood there before has its number behind it.
func labels(t *testing.T, src string) map[api.Pos]string {
	t.Helper()
	tokens, _, e := token.Scan(src)
	if e != fine {
		t.Fatalf("the tests' own %s: %d", src, e)
	}
	met, at := map[string]int{}, map[api.Pos]string{}
	for _, x := range tokens {
		met[x.Text]++
		at[x.Pos] = x.Text
		if n := met[x.Text]; n > 1 {
			at[x.Pos] += "#" + strconv.Itoa(n)
		}
	}
	return at
}

// traced tells what Next tells at each instruction, one behind the other, with its cost: a frame of each budget ends ahead of another one. The first four instructions are nops, so that none stands where no budget ends.
func traced(t *testing.T, src string, most int) string {
	t.Helper()
	at := labels(t, src)
	var all []string
	for budget := 4; len(all) < most; budget++ {
		x := pairOf(t, src, taken(t, src))
		o := x.frame(t, 0, budget)
		if o.Status != running {
			break
		}
		if o.Spent < budget {
			continue // it is cut: where it stands a lesser budget has ended
		}
		place, cost, _ := x.meant.Next()
		all = append(all, at[place]+":"+strconv.Itoa(cost))
	}
	return strings.Join(all, " ")
}

// wantTraced holds main's body to what Next tells at its instructions, and at those of words that it calls.
func wantTraced(t *testing.T, words, body, want string) {
	t.Helper()
	src := words + ": main nop nop nop nop " + body + " ;"
	most := 1000
	if cut, endless := strings.CutSuffix(want, " .."); endless {
		want = cut
		most = len(strings.Fields(want))
	}
	if got := traced(t, src, most); got != want {
		t.Errorf("15.1, 15.5: %s\n%s, want\n%s", src, got, want)
	}
}

func TestPlacesOfSingleNodes(t *testing.T) { // 15.1, 15.5
	wantTraced(t, "", "", "main:2")
	wantTraced(t, "", "1 2 + drop", "1:2 2:2 +:1 drop:1 main:2")
	wantTraced(t, "", "1 2 / 3 * 0 ! exit nop", "1:2 2:2 /:4 3:2 *:3 0:2 !:2 exit:2")
	wantTraced(t, "7 constant k variable v 9 buffer b ", "k v b 2drop drop", "k#2:2 v#2:2 b#2:2 2drop:1 drop:1 main:2")
	wantTraced(t, "", "halt 1", "halt:1")
	wantTraced(t, "", "1 2 3 plot 4 5 tone", "1:2 2:2 3:2 plot:3 4:2 5:2 tone:2 main:2")
}

func TestPlacesOfWords(t *testing.T) { // 15.1, 15.2: the name; the word's own exit at its definition; behind it on behind the name
	wantTraced(t, ": w ; ", "w", "w#2:2 w:2 main:2")
	wantTraced(t, ": w 1 ; ", "w w 2drop", "w#2:2 1:2 w:2 w#3:2 1:2 w:2 2drop:1 main:2")
	wantTraced(t, ": w 1 exit 2 ; ", "w 3", "w#2:2 1:2 exit:2 3:2 main:2")
	wantTraced(t, ": a 1 ; : b a 2 ; : c b a ; ", "c 3", "c#2:2 b#2:2 a#2:2 1:2 a:2 2:2 b:2 a#3:2 1:2 a:2 c:2 3:2 main:2")
	wantTraced(t, ": w if exit then 5 ; ", "1 w 0 w", "1:2 w#2:2 if:2 exit:2 0:2 w#3:2 if:2 5:2 w:2 main:2")
	wantTraced(t, ": w begin exit again ; ", "w", "w#2:2 exit:2 main:2")
}

func TestPlacesOfIf(t *testing.T) { // 15.1, 15.5: both ways, with and without an else, empty too
	wantTraced(t, "", "1 if 2 drop then 3", "1:2 if:2 2:2 drop:1 3:2 main:2")
	wantTraced(t, "", "0 if 2 drop then 3", "0:2 if:2 3:2 main:2")
	wantTraced(t, "", "65535 if 2 then", "65535:2 if:2 2:2 main:2")
	wantTraced(t, "", "1 if 2 else 3 then drop", "1:2 if:2 2:2 if:2 drop:1 main:2")
	wantTraced(t, "", "0 if 2 else 3 then drop", "0:2 if:2 3:2 drop:1 main:2")
	wantTraced(t, "", "1 if then", "1:2 if:2 main:2")
	wantTraced(t, "", "0 if then", "0:2 if:2 main:2")
	wantTraced(t, "", "1 if else then", "1:2 if:2 if:2 main:2")
	wantTraced(t, "", "0 if else then", "0:2 if:2 main:2")
	wantTraced(t, "", "1 if else 3 drop then", "1:2 if:2 if:2 main:2")
	wantTraced(t, "", "0 if 3 drop else then nop", "0:2 if:2 nop#5:1 main:2")
	wantTraced(t, "", "1 if 2 if 3 then then", "1:2 if:2 2:2 if#2:2 3:2 main:2")
	wantTraced(t, "", "1 if 2 if 3 else 4 then else 5 then", "1:2 if:2 2:2 if#2:2 3:2 if#2:2 if:2 main:2")
	wantTraced(t, "", "0 if 2 if 3 then else 0 if 4 else 5 then then 6", "0:2 if:2 0#2:2 if#3:2 5:2 6:2 main:2")
	wantTraced(t, "", "1 if exit else 2 then", "1:2 if:2 exit:2")
	wantTraced(t, "", "1 if begin 2 until else then", "1:2 if:2 2:2 begin:2 if:2 main:2")
}

func TestPlacesOfLoops(t *testing.T) { // 15.1, 15.5: each kind, empty too
	wantTraced(t, "", "begin 1 until", "1:2 begin:2 main:2")
	wantTraced(t, "", "1 0 begin nop until", "1:2 0:2 nop#5:1 begin:2 nop#5:1 begin:2 main:2")
	wantTraced(t, "", "1 0 0 begin until", "1:2 0:2 0#2:2 begin:2 begin:2 begin:2 main:2")
	wantTraced(t, "", "1 begin dup while 1- repeat drop", "1:2 dup:1 begin:2 1-:1 begin:2 dup:1 begin:2 drop:1 main:2")
	wantTraced(t, "", "0 1 begin while repeat", "0:2 1:2 begin:2 begin:2 begin:2 main:2")
	wantTraced(t, "", "0 1 begin while nop repeat", "0:2 1:2 begin:2 nop#5:1 begin:2 begin:2 main:2")
	wantTraced(t, "", "begin 0 while repeat 2", "0:2 begin:2 2:2 main:2")
	wantTraced(t, "", "begin again", "begin:2 begin:2 begin:2 ..")
	wantTraced(t, "", "begin nop 1 drop again", "nop#5:1 1:2 drop:1 begin:2 nop#5:1 1:2 drop:1 begin:2 nop#5:1 ..")
	wantTraced(t, "", "2 0 do i drop loop", "2:2 0:2 do:3 i:1 drop:1 do:3 i:1 drop:1 do:3 main:2")
	wantTraced(t, "", "3 0 do loop 5", "3:2 0:2 do:3 do:3 do:3 do:3 5:2 main:2")
}

func TestPlacesOfLoopsInOneAnother(t *testing.T) { // 15.1, 15.5
	wantTraced(t, "", "begin begin 1 until 2 until", "1:2 begin#2:2 2:2 begin:2 main:2")
	wantTraced(t, "", "1 0 begin begin until nop 3 until", "1:2 0:2 begin#2:2 begin#2:2 nop#5:1 3:2 begin:2 main:2")
	wantTraced(t, "", "begin begin begin again again again", "begin#3:2 begin#3:2 ..")
	wantTraced(t, "", "0 begin begin begin 1 until 2 until until", "0:2 1:2 begin#3:2 2:2 begin#2:2 begin:2 1:2 begin#3:2 2:2 begin#2:2 ..")
	wantTraced(t, "", "2 0 do 4 3 do j drop loop loop", "2:2 0:2 do:3 4:2 3:2 do#2:3 j:1 drop:1 do#2:3 do:3 4:2 3:2 do#2:3 j:1 drop:1 do#2:3 do:3 main:2")
	wantTraced(t, "", "2 0 do i if 5 else 6 then drop loop", "2:2 0:2 do:3 i:1 if:2 6:2 drop:1 do:3 i:1 if:2 5:2 if:2 drop:1 do:3 main:2")
	wantTraced(t, "", "2 0 do i if 5 drop then loop", "2:2 0:2 do:3 i:1 if:2 do:3 i:1 if:2 5:2 drop:1 do:3 main:2")
	wantTraced(t, "", "begin 1 while begin 0 while repeat 2 if exit then repeat", "1:2 begin:2 0:2 begin#2:2 2:2 if:2 exit:2")
	wantTraced(t, ": w 1 0 do 3 drop loop ; ", "begin w 1 until", "w#2:2 1:2 0:2 do:3 3:2 drop:1 do:3 w:2 1#2:2 begin:2 main:2")
	wantTraced(t, "", "0 begin begin 1 while 2 if 3 drop exit then repeat again", "0:2 1:2 begin#2:2 2:2 if:2 3:2 drop:1 exit:2")
}

func TestPlacesThatNobodyParsed(t *testing.T) { // 15.1: they are told as they were handed in
	p := taken(t, ": main nop nop nop nop 5 if 6 then ;")
	own, number, choice, inner := api.Pos{Line: -7}, api.Pos{Line: 2, Col: 2}, api.Pos{Line: 1 << 40, Col: 5}, api.Pos{}
	p.Defs[0].Pos, p.Defs[0].Body[4].Pos, p.Defs[0].Body[5].Pos, p.Defs[0].Body[5].Then[0].Pos = own, number, choice, inner
	for budget, want := range map[int]api.Pos{4: number, 6: choice, 8: inner, 10: own} {
		x := pairOf(t, "other places", p)
		x.frame(t, 0, budget)
		if at, cost, is := x.meant.Next(); at != want || cost != 2 || !is {
			t.Errorf("Next = %v, %d, %t, want %v", at, cost, is, want)
		}
	}
}

func TestCut(t *testing.T) { // 15.4: where the next instruction would not fit; it comes first in the next frame
	m := made(t, ": main 1 2 * 3 4 ;")
	framed(t, m, 5, running, none, 2, 4)
	wantNext(t, m, 12, 3)
	wantStacks(t, m, 0, 1, 2)
	framed(t, m, 5, running, none, 2, 5) // cut too, where all was spent
	wantNext(t, m, 16, 2)
	framed(t, m, 5, halted, none, 2, 4)
	wantStacks(t, m, 0, 2, 3, 4)

	m = made(t, ": w 9 9 / ; : main nop nop nop w ;") // ahead of a call, and inside it
	framed(t, m, 4, running, none, 3, 3)
	wantNext(t, m, 32, 2)
	framed(t, m, 5, running, none, 2, 4)
	wantNext(t, m, 7, 2)
	wantStacks(t, m, 1, 9)
	framed(t, m, 5, running, none, 1, 2)
	wantNext(t, m, 9, 4)
	framed(t, m, 5, running, none, 1, 4)
	wantNext(t, m, 3, 2)
	framed(t, m, 5, halted, none, 2, 4)

	m = made(t, ": main nop nop nop * ;") // what costs too much does not fault; it does in the next frame
	framed(t, m, 4, running, none, 3, 3)
	wantNext(t, m, 20, 3)
	framed(t, m, 4, faulted, under, 0, 0)
	m = made(t, ": main nop nop nop drop ;") // what would fit does
	framed(t, m, 4, faulted, under, 3, 3)
	m = made(t, ": main nop nop nop nop drop ;") // no cycle is left: it is not looked at
	framed(t, m, 4, running, none, 4, 4)
	framed(t, m, 4, faulted, under, 0, 0)
}

func TestCutAtEachCost(t *testing.T) { // 15.4: just enough is left, and one cycle too few, for each piece
	for _, x := range things() {
		if x.src == "yield" {
			continue
		}
		for nops := 4; nops < 9; nops++ {
			src := "7 constant k variable v 9 buffer b : w ; : main 1 2 3 " + times(nops, "nop") + x.src + " ;"
			for budget := 6 + nops; budget <= 6+nops+x.cost; budget++ {
				m := pairOf(t, src, taken(t, src))
				o := m.frame(t, 0, budget)
				if done := o.Steps > 3+nops || o.Status == faulted; done != (budget == 6+nops+x.cost) {
					t.Errorf("%s: %d of %d cycles left: %d steps", x.src, budget-6-nops, x.cost, o.Steps)
				}
				m.frame(t, 0, 4)
			}
		}
	}
}

func TestYield(t *testing.T) { // 15.4: the frame ends behind it, with the last cycle too; the next one goes on there
	m := made(t, ": w yield nop ; : main nop w nop nop yield yield halt ;")
	framed(t, m, 100, running, none, 3, 4)
	wantNext(t, m, 11, 1)
	framed(t, m, 6, running, none, 5, 6)
	wantNext(t, m, 44, 1)
	framed(t, m, 16384, running, none, 1, 1)
	framed(t, m, 100, halted, none, 1, 1)
	m = made(t, ": main nop nop nop yield 1 ;")
	framed(t, m, 4, running, none, 4, 4)
	framed(t, m, 4, halted, none, 2, 4)
	m = made(t, ": main nop nop nop halt 1 ;")
	framed(t, m, 4, halted, none, 4, 4)
	wantNoNext(t, m)
}
