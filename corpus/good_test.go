package corpus_test

import (
	"bytes"
	"testing"

	"wisp/api"
	"wisp/cart"
	"wisp/check"
	"wisp/comp"
	"wisp/console"
	"wisp/effect"
	"wisp/tree"
)

// 26.4: well formed and compiled.
func TestWellFormedAndCompiled(t *testing.T) {
	for _, name := range inOrder() {
		src := sourceOf(t, name)
		if _, at, e := tree.Parse(src); e != fine {
			t.Errorf("26.4: %s: tree.Parse says %d at %v", name, e, at)
		}
		if at, e := comp.Well(src); e != fine {
			t.Errorf("26.4: %s: comp.Well says %d at %v", name, e, at)
		}
		if image, at, e := comp.Compile(src); e != fine || len(image) == 0 {
			t.Errorf("26.4: %s: comp.Compile says %d at %v, %d bytes", name, e, at, len(image))
		}
	}
}

// 26.4: typable.
func TestTypable(t *testing.T) {
	for _, name := range inOrder() {
		program, _, e := tree.Parse(sourceOf(t, name))
		if e != fine {
			t.Fatalf("26.4: %s: tree.Parse says %d", name, e)
		}
		if e, at := effect.Typable(program); e != fine {
			t.Errorf("26.4: %s: effect.Typable says %d at %v", name, e, at)
		}
	}
}

// 26.4: accepted, and put in by console just as its source is.
func TestAccepted(t *testing.T) {
	for _, name := range inOrder() {
		image := cartOf(t, name)
		c, e := cart.Decode(image)
		if e != fine {
			t.Fatalf("26.4: %s: cart.Decode says %d", name, e)
		}
		if v := check.Check(c); v != (api.Verdict{}) {
			t.Errorf("26.4: %s: check.Check says %v", name, v)
		}
		if v := check.Bytes(image); v != (api.Verdict{}) {
			t.Errorf("26.4: %s: check.Bytes says %v", name, v)
		}
		box := playing(t, name)
		if v := box.Check(); v != (api.Verdict{}) {
			t.Errorf("26.4: %s: a console's Check says %v", name, v)
		}
		other, e := console.New(budget)
		if e != fine {
			t.Fatal(e)
		}
		if at, e := other.Source(sourceOf(t, name)); e != fine || !bytes.Equal(other.Cart(), box.Cart()) {
			t.Errorf("26.4: %s: a console's Source says %d at %v", name, e, at)
		}
	}
}
