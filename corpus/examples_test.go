package corpus_test

import (
	"testing"

	"wisp/console"
	"wisp/corpus"
)

// Example 1
func TestExampleNoSuchName(t *testing.T) {
	for _, name := range []string{"pongs", ""} {
		if src, e := corpus.Source(name); src != "" || e != badInput {
			t.Errorf("Source(%q) = %.40q, %d", name, src, e)
		}
	}
	if image, e := corpus.Cart("Pong"); len(image) != 0 || e != badInput {
		t.Errorf("Cart(\"Pong\"): %d bytes, %d", len(image), e)
	}
}

// Example 2
func TestExampleSong(t *testing.T) {
	image, e := corpus.Cart("song")
	if e != fine {
		t.Fatalf("Cart(\"song\"): %d", e)
	}
	box, e := console.New(8192)
	if e != fine {
		t.Fatal(e)
	}
	if e := box.Load(image); e != fine {
		t.Fatalf("Load: %d", e)
	}
	out := box.Frame(0)
	if out.Status != running || len(out.Tones) != 1 || out.Tones[0].Pitch != 260 || out.Tones[0].Volume != 5 {
		t.Errorf("the first frame: status %d, tones %v", out.Status, out.Tones)
	}
	if out = box.Frame(0); out.Status != running || len(out.Tones) != 0 {
		t.Errorf("the second frame: status %d, tones %v", out.Status, out.Tones)
	}
}
