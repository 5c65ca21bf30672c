package corpus_test

import (
	"bytes"
	"os"
	"slices"
	"strings"
	"sync"
	"testing"

	"wisp/api"
	"wisp/comp"
	"wisp/corpus"
	"wisp/pack"
	"wisp/spare"
)

// Errors and statuses by the document's numbers, not by api's names: a slip in one of the two must show.
const (
	fine     = api.Errno(0)
	badInput = api.Errno(2)

	running = api.Status(1)
	none    = api.Fault(0)
)

// budget is the one of 26.4.
const budget = 8192

// inOrder are the names of 26.1.
func inOrder() []string { return []string{"cells", "paint", "pong", "snake", "song"} }

func sourceOf(t *testing.T, name string) string {
	t.Helper()
	src, e := corpus.Source(name)
	if e != fine || src == "" {
		t.Fatalf("26.2: Source(%q): %d bytes, %d", name, len(src), e)
	}
	return src
}

func cartOf(t *testing.T, name string) []byte {
	t.Helper()
	image, e := corpus.Cart(name)
	if e != fine || len(image) == 0 {
		t.Fatalf("26.3: Cart(%q): %d bytes, %d", name, len(image), e)
	}
	return image
}

// 26.1, R3
func TestNames(t *testing.T) {
	first := corpus.Names()
	if !slices.Equal(first, inOrder()) {
		t.Fatalf("26.1: Names() = %q", first)
	}
	_ = append(first, "tetris")
	_ = append(first[:2], "tetris")
	if got := corpus.Names(); !slices.Equal(got, inOrder()) {
		t.Errorf("26.1: Names() = %q, behind a list that was appended to", got)
	}
	first = corpus.Names()
	second := corpus.Names()
	spare.Over(first, "tetris")
	if !slices.Equal(second, inOrder()) {
		t.Errorf("R3: a list of names is %q, behind another that was written over", second)
	}
	if got := corpus.Names(); !slices.Equal(got, inOrder()) {
		t.Errorf("26.1: Names() = %q, behind a list that was written over", got)
	}
	for _, name := range inOrder() {
		sourceOf(t, name)
		cartOf(t, name)
	}
}

// shared is where the document lies beside the checkout, and beside the copy that .ci/run makes of it.
const shared = "../../shared"

// chapter is the lines of chapter 26.
func chapter(t *testing.T) []string {
	t.Helper()
	if _, err := os.Stat(shared); os.IsNotExist(err) {
		t.Skip("no folder ../shared beside the checkout")
	}
	text, err := os.ReadFile(shared + "/doc/26-corpus.md")
	if err != nil {
		t.Fatal(err)
	}
	_, text, found := bytes.Cut(text, []byte("\n## The sources\n"))
	if !found {
		t.Fatal("the chapter has no sources")
	}
	return strings.SplitAfter(string(text), "\n")
}

// fenced is the lines between the two fences that come behind the line of a name.
func fenced(t *testing.T, lines []string, name string) string {
	t.Helper()
	const fence = "~~~\n"
	at := slices.Index(lines, name+":\n")
	if at < 0 || at+2 >= len(lines) || lines[at+1] != "\n" || lines[at+2] != fence {
		t.Fatalf("the chapter has no source of %s", name)
	}
	lines = lines[at+3:]
	end := slices.Index(lines, fence)
	if end < 0 {
		t.Fatalf("the chapter's source of %s has no end", name)
	}
	return strings.Join(lines[:end], "")
}

// 26.2
func TestSourcesAreTheChapters(t *testing.T) {
	lines := chapter(t)
	for _, name := range inOrder() {
		got, want := sourceOf(t, name), fenced(t, lines, name)
		if got != want || !strings.HasSuffix(got, "again ;\n") {
			t.Errorf("26.2: Source(%q): it has %d bytes, the chapter's %d:\n%s", name, len(got), len(want), got)
		}
	}
}

// 26.2: the same where the document is not at hand, by what the chapter's sources come to.
func TestSourcesBySums(t *testing.T) {
	for _, c := range []struct {
		name         string
		lines, bytes int
		sum          uint32
	}{
		{"cells", 12, 539, 0xc365a9b6},
		{"paint", 14, 407, 0x9100c8b3},
		{"pong", 21, 1087, 0x4dcbe11f},
		{"snake", 26, 1269, 0x4b8c8218},
		{"song", 9, 492, 0xe477f6c9},
	} {
		src := sourceOf(t, c.name)
		if got := strings.Count(src, "\n"); got != c.lines || len(src) != c.bytes || pack.Sum([]byte(src)) != c.sum {
			t.Errorf("26.2: Source(%q): %d lines, %d bytes, the sum %08x", c.name, got, len(src), pack.Sum([]byte(src)))
		}
		if !strings.HasPrefix(src, "\\ "+c.name+": ") || !strings.HasSuffix(src, ";\n") {
			t.Errorf("26.2: Source(%q) begins or ends otherwise:\n%s", c.name, src)
		}
	}
}

func wantNone(t *testing.T, name string) {
	t.Helper()
	if src, e := corpus.Source(name); src != "" || e != badInput {
		t.Errorf("26.2: Source(%.40q): %d bytes, %d; want ErrInput alone", name, len(src), e)
	}
	if image, e := corpus.Cart(name); len(image) != 0 || e != badInput {
		t.Errorf("26.3: Cart(%.40q): %d bytes, %d; want ErrInput alone", name, len(image), e)
	}
}

// 26.2, 26.3, R1
func TestNamesThatAreNone(t *testing.T) {
	for _, name := range []string{
		"", " ", "\n", "\x00", "\xff", "\xc3\x28", "\x80pong", "pong\xff", "\xed\xa0\x80", "0", "1", "tetris", "cell", "corpus",
		"cells,paint", "cells paint", "cellspaint", "pong\nsong", ": main ;", "\\ pong", "pong.fs", "./pong", "main",
		strings.Repeat("pong", 1<<18),
	} {
		wantNone(t, name)
	}
	for _, name := range inOrder() {
		wantNone(t, strings.ToUpper(name))
		wantNone(t, strings.ToUpper(name[:1])+name[1:])
		wantNone(t, "\""+name+"\"")
		wantNone(t, name+name)
		wantNone(t, sourceOf(t, name))
		for n := range len(name) {
			wantNone(t, name[:n])
			wantNone(t, name[n+1:])
			wantNone(t, name[:n]+name[n+1:])
		}
	}
}

// 26.2, 26.3: all that is one byte longer than a name, or has one byte that is another, as pong and song have.
func TestNamesButForAByte(t *testing.T) {
	for _, name := range inOrder() {
		for x := range 256 {
			b := string([]byte{byte(x)})
			wantNone(t, b)
			for at := range len(name) + 1 {
				wantNone(t, name[:at]+b+name[at:])
				if at == len(name) {
					continue
				}
				if near := name[:at] + b + name[at+1:]; !slices.Contains(inOrder(), near) {
					wantNone(t, near)
				}
			}
		}
	}
}

// 26.3, R3
func TestCart(t *testing.T) {
	for _, name := range inOrder() {
		want, at, e := comp.Compile(sourceOf(t, name))
		if e != fine {
			t.Fatalf("26.4: comp.Compile of %s: %d at %v", name, e, at)
		}
		first, second := cartOf(t, name), cartOf(t, name)
		if !bytes.Equal(first, want) || !bytes.Equal(second, want) {
			t.Errorf("26.3: Cart(%q) is not what comp.Compile answers", name)
		}
		spare.Over(first, 0xa5)
		if !bytes.Equal(second, want) {
			t.Errorf("R3: what Cart(%q) has answered changes with what it has answered ahead of it", name)
		}
		if third := cartOf(t, name); !bytes.Equal(third, want) {
			t.Errorf("26.3: Cart(%q) is another behind an answer that was written over", name)
		}
	}
}

// R5
func TestAllAtOnce(t *testing.T) {
	var all sync.WaitGroup
	for k := range 20 {
		all.Go(func() {
			names := corpus.Names()
			for i := range names {
				name := names[(i+k)%len(names)]
				src, e := corpus.Source(name)
				image, f := corpus.Cart(name)
				want, _, g := comp.Compile(src)
				if e != fine || f != fine || g != fine || !bytes.Equal(image, want) {
					t.Errorf("R5: %q: %d, %d, %d", name, e, f, g)
				}
				spare.Over(image, 1)
			}
			spare.Over(names, "tetris")
		})
	}
	all.Wait()
	if got := corpus.Names(); !slices.Equal(got, inOrder()) {
		t.Errorf("R5: Names() = %q", got)
	}
}
