package sources

import (
	"strconv"
	"strings"
)

// Typable are some that are typable: those of chapter 11's examples, and those in which a number of a shape is as great as it may be.
func Typable() []string {
	double := ": t0 1 2 ;"
	for i := 1; i < 8; i++ {
		below := " t" + strconv.Itoa(i-1)
		double += " : t" + strconv.Itoa(i) + below + below + " ;"
	}
	return []string{
		": sq dup * ; : main 3 sq drop ;",
		": two 1 2 ; : under drop drop 7 ; : main two under drop ;",
		": a >r 1 r> + ; : main 1 a drop ;",
		": d 5 0 do i drop loop ; : main d ;",
		": f if 1 else 2 then ; : main 1 f drop ;",
		": h begin 1 until ; : main h ;",
		": k begin dup until ; : main 1 k drop ;",
		": m begin again ; : main m ;",
		": o if drop exit then drop ; : main 1 2 o ;",
		": q halt 1 ; : main q ;",
		": m begin again ; : p m drop drop ; : main p ;",
		": bad drop ; : main begin yield again ;",

		": x " + Times(256, "drop") + "; : main " + Times(256, "1") + "x ;",
		": x " + Times(256, "1") + "; : main x " + Times(256, "drop") + ";",
		": x " + Times(127, "1 >r") + Times(127, "r> drop") + "; : main x ;",
		": main " + Times(32, "1 0 do") + Times(64, "1 >r") + Times(64, "r> drop") + Times(32, "loop") + ";",
		": main " + Times(32, "1 if") + Times(32, "then") + ";",
		Chain(128) + ": main n127 ;",
		double + " : main t7 " + Times(256, "drop") + ";",
	}
}

// Chain is so many words, each of which calls the one ahead of it; n0 is the first.
func Chain(words int) string {
	var b strings.Builder
	b.WriteString(": n0 ; ")
	for i := 1; i < words; i++ {
		b.WriteString(": n" + strconv.Itoa(i) + " n" + strconv.Itoa(i-1) + " ; ")
	}
	return b.String()
}

// Times is a text so often, each with a blank behind it.
func Times(many int, s string) string { return strings.Repeat(s+" ", many) }
