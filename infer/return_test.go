package infer_test

import (
	"strings"
	"testing"
)

// ownCells gives every list of own cells of so many parts, as letters, with what puts them there; the height is 0 behind that.
func ownCells(parts int) map[string]string {
	if parts == 0 {
		return map[string]string{"": ""}
	}
	all := map[string]string{}
	for own, text := range ownCells(parts - 1) {
		all[own+"S"] = text + "1 >r "
		all[own+"LI"] = text + "1 2 do "
	}
	return all
}

// dataOf is the height that such a text comes to.
func dataOf(own string) int {
	switch {
	case strings.Contains(own, "L"):
		return 2
	case own != "":
		return 1
	}
	return 0
}

func TestOwnCells(t *testing.T) { // 17.1, 4: ErrReturn, of each primitive that looks at them, by each list of them
	for parts := range 5 {
		for own, text := range ownCells(parts) {
			n := len(own)
			for op, fits := range map[string]bool{
				"r>": strings.HasSuffix(own, "S"),
				"r@": strings.HasSuffix(own, "S"),
				"i":  strings.HasSuffix(own, "I"),
				"j":  n >= 3 && own[n-3] == 'I',
			} {
				if fits {
					wantNever(t, text+op+" halt", 0, max(1, dataOf(own)), n)
				} else {
					wantFault(t, text+"^"+op+" halt", badReturn)
				}
			}
			if strings.HasSuffix(own, "LI") {
				wantNever(t, text+"a: loop,a halt", 0, dataOf(own), n)
			} else {
				wantFault(t, text+"a: ^loop,a halt", badReturn)
			}
			if n == 0 {
				wantReturns(t, text+"exit", 0, 0, 0, 0)
			} else {
				wantFault(t, text+"^exit", badReturn)
			}
			// All others do not look at them.
			wantNever(t, text+"1 >r r> 2 do b: loop,b none 7 const 2drop nop 1 zbranch,c yield c: branch,d d: halt", 0, max(2, dataOf(own)), n+2)
		}
	}
}

func TestOwnCellsThatWent(t *testing.T) { // 17.1, 4 and 5
	wantFault(t, ">r r> ^r>", badReturn)
	wantFault(t, ">r r> ^r@", badReturn)
	wantFault(t, ">r >r r> r> ^r>", badReturn)
	wantFault(t, ">r >r r> ^exit", badReturn)
	wantReturns(t, ">r >r r> r> exit", 2, 2, 0, 2)
	wantReturns(t, ">r >r r@ r> r> exit", 2, 3, 1, 2)
	wantReturns(t, "do a: 1 >r r> i 2drop loop,a exit", 2, 0, 0, 3)
	wantFault(t, "do a: 1 >r ^i r> 2drop loop,a exit", badReturn)
	wantFault(t, ">r do a: loop,a r> ^r> exit", badReturn)
}

func TestLoopsTwoWays(t *testing.T) { // 17.1, 6: to the Operand as it is; to Next with the last two own cells gone
	wantReturns(t, "1 0 do a: i drop loop,a exit", 0, 0, 2, 2)
	wantFault(t, "1 0 do a: i drop loop,a ^i", badReturn)
	wantReturns(t, "1 0 do loop,x exit x: i drop halt", 0, 0, 2, 2)
	wantFault(t, "1 0 do loop,x exit x: ^exit", badReturn)
	wantFault(t, "1 0 do loop,x ^i x: halt", badReturn)
	wantReturns(t, "1 0 do loop,x exit x: a: loop,a exit", 0, 0, 2, 2)
	// Those below stay.
	wantReturns(t, "1 0 do a: 1 0 do b: j drop loop,b i drop loop,a exit", 0, 0, 2, 4)
	wantReturns(t, "1 >r 1 0 do a: loop,a r@ r> 2drop exit", 0, 0, 2, 3)
	wantFault(t, "1 0 do a: 1 0 do b: loop,b ^j loop,a exit", badReturn)
	wantFault(t, "1 0 do a: 1 0 do b: loop,b ^exit", badReturn)
	wantFault(t, "1 >r 1 0 do a: loop,a ^i", badReturn)
	// Both ways to one address: they are not alike.
	wantFault(t, "1 0 do ^loop,x x: exit", badJoin)
	wantFault(t, "branch,mid low: exit mid: 1 0 do ^loop,low~low", badLoop)
	// Next where the loop's own state stands.
	wantFault(t, "1 0 do a: ^loop,b~a b: halt", badLoop)
	wantFault(t, "1 0 do a: nop ^loop,a~a", badLoop)
}

func TestWaysThatMeet(t *testing.T) { // 17.1, 6: with one state, by whichever ways they have come
	wantReturns(t, "zbranch,x 1 branch,y x: 2 y: exit", 1, 1, 0, 0)
	wantReturns(t, "zbranch,x >r branch,y x: >r y: r> exit", 2, 1, 0, 1)
	wantReturns(t, "zbranch,x 1 >r branch,y x: 1 2 swap drop >r y: r> exit", 1, 1, 1, 1)
	wantReturns(t, "zbranch,x 1 0 do branch,y x: 2 0 do y: i drop loop,y exit", 1, 0, 1, 2)
	wantNever(t, "zbranch,x do 1 >r branch,y x: do 2 >r y: r> drop halt", 3, 0, 3)
}

func TestLoopAgainstJoin(t *testing.T) { // 17.1, 6: ErrLoop, if the address is not above the instruction's own
	// The height differs: below, at, above.
	wantFault(t, "a: 1 ^branch,a", badLoop)
	wantFault(t, "a: ^1~a", badLoop)
	wantFault(t, "a: ^zbranch,a exit", badLoop)
	wantFault(t, "zbranch,x ^1 x: exit", badJoin)
	wantFault(t, "a: 1 1 ^zbranch,a exit", badLoop)
	wantFault(t, "1 0 do a: 1 ^loop,a exit", badLoop)
	wantFault(t, "zbranch,x 1 ^branch,x x: exit", badJoin)
	wantFault(t, "zbranch,x 1 1 ^zbranch,x exit x: exit", badJoin)
	wantFault(t, "zbranch,x ^two x: exit", badJoin)
	wantFault(t, "a: ^takes~a", badLoop)
	// The own cells alone differ: below, at, above.
	wantFault(t, "a: 1 ^>r~a", badLoop)
	wantFault(t, "a: 1 2 ^do~a", badLoop)
	wantFault(t, "a: 1 >r ^branch,a", badLoop)
	wantFault(t, "1 0 do a: ^loop,b~a b: halt", badLoop)
	wantFault(t, "zbranch,x 1 ^>r x: halt", badJoin)
	wantFault(t, "zbranch,x 1 2 ^do x: halt", badJoin)
	wantFault(t, "1 >r zbranch,x r>~y x: ^1 y: halt", badJoin)
}

func TestOwnCellsThatAreNotAlike(t *testing.T) { // 17.1, 6: their kinds and their order, from the lowest on
	wantFault(t, "zbranch,x >r >r branch,y x: ^do y: halt", badJoin)
	wantFault(t, "zbranch,x do branch,y x: >r ^>r y: halt", badJoin)
	wantFault(t, "zbranch,x do >r branch,y x: >r ^do y: halt", badJoin)
	wantFault(t, "zbranch,x >r >r >r branch,y x: >r ^do y: halt", badJoin)
	wantFault(t, "zbranch,x >r >r branch,y x: >r ^drop y: halt", badJoin)
	wantFault(t, "zbranch,x >r drop branch,y x: >r ^>r y: halt", badJoin)
	for many := range 60 {
		// So many are alike ahead of those that are not, and so many behind them.
		for _, text := range []string{
			"zbranch,x S >r >r T branch,y x: S do T y: halt",
			"zbranch,x S drop drop T branch,y x: S do T y: halt",
		} {
			text = strings.NewReplacer("S ", times(many, "1 >r"), "T branch", times(59-many, "1 >r")+"branch", "T y", times(59-many, "1 >r")+"^branch,y y").Replace(text)
			wantFault(t, text, badJoin)
		}
	}
	// A cell more, and then one less, is as before.
	wantReturns(t, "zbranch,x 1 >r 2 >r r> drop branch,y x: 1 >r y: r> exit", 1, 1, 0, 2)
	wantReturns(t, "zbranch,x 1 >r 1 0 do a: loop,a branch,y x: 1 >r y: r> exit", 1, 1, 1, 3)
}

func TestWhereAStateStands(t *testing.T) { // 17.1, 6: whether it has been looked at or not
	// Above, and looked at already.
	wantFault(t, "branch,mid low: ^branch,mid mid: nop zbranch,low exit", badJoin)
	wantNever(t, "branch,mid low: 1 branch,mid mid: nop zbranch,low halt", 1, 0, 0)
	// At the word's first instruction the word's begin stands.
	wantFault(t, "a: drop ^branch,a", badLoop)
	wantFault(t, "a: drop dup nop ^drop~a", badLoop)
	// The state that came first stays, whatever comes then: the second one that differs is at fault, not the first.
	wantFault(t, "zbranch,x dup zbranch,x 1 drop ^drop x: exit", badJoin)
}

func TestExits(t *testing.T) { // 17.1, 6: all have one height
	wantReturns(t, "zbranch,x 1 exit x: 2 exit", 1, 1, 0, 0)
	wantReturns(t, "zbranch,x 1 exit x: drop 2 3 exit", 2, 2, 0, 0)
	wantReturns(t, "zbranch,x exit x: halt", 1, 0, 0, 0)
	wantReturns(t, "zbranch,x halt x: exit", 1, 0, 0, 0)
	wantReturns(t, "dup zbranch,x dup zbranch,y exit x: exit y: exit", 1, 1, 1, 0)
	wantReturns(t, "zbranch,x x: exit exit", 1, 0, 0, 0)
	wantFault(t, "zbranch,x 1 exit x: ^exit", badJoin)
	wantFault(t, "zbranch,x exit x: 1 ^exit", badJoin)
	wantFault(t, "zbranch,x exit x: drop ^exit", badJoin)
	wantFault(t, "dup zbranch,x dup zbranch,y exit x: exit y: drop ^exit", badJoin)
	// The height of the exit that was looked at first counts, and that is the one that lies lower.
	wantFault(t, "branch,mid low: exit mid: zbranch,low 1 ^exit", badJoin)
	// A height of 0 is one, too.
	wantFault(t, "1 zbranch,x exit x: 1 ^exit", badJoin)
	// Where an exit's Next and Operand lead does not matter.
	wantReturns(t, "a: 1 exit~a", 0, 1, 1, 0)
}

func TestTheFirstOfTwoFaults(t *testing.T) { // 17.1, R2: at one instruction
	full := times(256, "1")
	for _, op := range []string{"r>", "r@", "i", "j"} {
		wantFault(t, full+"^"+op, badReturn)         // 4 ahead of 5
		wantFault(t, "a: 1 ^"+op+"~a", badReturn)    // 4 ahead of 6
		wantFault(t, full+"a: ^"+op+"~a", badReturn) // and of both
	}
	wantFault(t, "a: 1 >r ^loop,a exit", badReturn)
	wantFault(t, "zbranch,x exit x: >r ^exit", badReturn)
	wantFault(t, full+"a: ^1~a", badDepth) // 5 ahead of 6
	wantFault(t, times(256, "drop")+"a: ^zbranch,a exit", badDepth)
	wantFault(t, times(256, "drop")+"a: ^drop~a", badDepth)
	wantFault(t, times(128, "1 >r")+"1 a: ^>r~a", badDepth)
	wantFault(t, times(128, "1 >r")+"a: ^two~a", badDepth)
	// Of two ways the first: zbranch's Next, loop's Operand.
	wantFault(t, "a: 1 zbranch,x 1 1 ^zbranch,a x: exit", badJoin)
	wantFault(t, "zbranch,x a: 1 1 ^zbranch,x~a x: exit", badLoop)
	wantFault(t, "zbranch,x 1 1 do a: 1 ^loop,a x: exit", badLoop)
	wantFault(t, "zbranch,x 1 1 do a: 1 ^loop,x~a x: exit", badJoin)
}
