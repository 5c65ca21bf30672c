package emit_test

import (
	"testing"

	"wisp/emit"
	"wisp/trees"
)

func TestErrorsOfTheForm(t *testing.T) { // 13.1, 13.3: those of tree.Check, one by one
	for _, x := range trees.Wrong() {
		wantError(t, x.What, x.Err, x.Program)
	}
}

func TestErrorsOfTheRoom(t *testing.T) { // 13.1, 13.3: those of layout.Of, one by one; each just met is none
	for _, x := range trees.Full() {
		wantError(t, x.What, x.Err, x.Program)
	}
	for _, p := range trees.JustTaken() {
		c, e := emit.Cart(p)
		if e != fine {
			t.Fatalf("%.200v: %d", p, e)
		}
		wantHeld(t, "just met", p, c)
	}
}

func TestFormAheadOfRoom(t *testing.T) { // 13.1: where both are there tree.Check's error is told, wherever it stands
	for _, x := range trees.Both() {
		wantError(t, x.What, x.Err, x.Program)
	}
}

func TestUntypableProgramsHaveCode(t *testing.T) { // 13.1, 13.3: a word without a shape is no error
	for _, src := range []string{": main drop ;", ": main 1 ;", ": main r> ;", ": main if 1 then ;", ": main begin 1 again ;", ": main j ;", ": main if exit then drop ;", ": a r> ; : b a ; : main b ;"} {
		_, e := emit.Code(taken(t, src))
		if _, f := emit.Cart(taken(t, src)); e != fine || f != fine {
			t.Errorf("%s: %d, %d", src, e, f)
		}
	}
}
