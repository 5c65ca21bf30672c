package dis_test

import (
	"fmt"
	"math/rand"
	"strings"
	"testing"

	"wisp/api"
	"wisp/carts"
	"wisp/dis"
	"wisp/flow"
	"wisp/sources"
)

func TestListingOfWhatFlowRefuses(t *testing.T) { // P23.1: its verdict, and no text
	for what, x := range map[string]struct {
		c  api.Cart
		e  api.Errno
		at uint16
	}{
		"no code":                          {api.Cart{}, badCall, 0},
		"an entry that is a constant":      {at128(2, 9), badCall, 128},
		"an odd entry":                     {carts.Of(129, 1, 16), badCall, 129},
		"an entry beyond the code":         {carts.Of(60000, 1, 16), badCall, 60000},
		"code that ends":                   {at128(1, 42), badFall, 132},
		"no operand":                       {at128(1, 18, 6), badFall, 132},
		"a constant without a value":       {at128(1, 134, 16, 2), badFall, 130},
		"no primitive":                     {at128(1, 18, 0), badOpcode, 132},
		"a target between two cells":       {at128(1, 8, 131), badTarget, 130},
		"a target that is an operand":      {at128(1, 6, 16, 8, 132), badTarget, 132},
		"the second of two words":          {at128(1, 134, 16, 1, 0), badOpcode, 136},
		"two words that share instruction": {at128(1, 134, 16, 1, 8, 132), badTarget, 132},
	} {
		if s, v := dis.Listing(x.c); s != "" || v != (api.Verdict{Err: x.e, At: x.at}) {
			t.Errorf("P23.1: %s: Listing = %q, %v, want the verdict {%d %d}", what, s, v, x.e, x.at)
		}
	}
	for what, c := range carts.Refused() {
		if len(c.Code) == 0 {
			c.Code, c.Entry = at128(1, 16).Code, 128
		}
		if s, v := dis.Listing(c); s != "" || v != (api.Verdict{Err: badCart}) {
			t.Errorf("P23.1: %s: Listing = %q, %v", what, s, v)
		}
	}
}

func TestListingOfEachInstruction(t *testing.T) { // P23.1: the table's rows
	for _, x := range []struct {
		what, want string
		cells      []uint16
	}{
		{"a call", "0080 :\n  0082 call 0086\n  0084 exit\n0086 :\n  0088 exit\n", []uint16{1, 134, 16, 1, 16}},
		{"a constant", "0080 :\n  0082 const 9\n  0084 exit\n", []uint16{1, 134, 16, 2, 9}},
		{"a great constant", "0080 :\n  0082 const 65535\n  0084 exit\n", []uint16{1, 134, 16, 2, 65535}},
		{"a constant 0", "0080 :\n  0082 const 0\n  0084 exit\n", []uint16{1, 134, 16, 2, 0}},
		{"const's own cell", "0080 :\n  0082 const 3\n  0084 exit\n", []uint16{1, 4, 16}},
		{"lit 0", "0080 :\n  0082 lit 0\n  0086 exit\n", []uint16{1, 6, 0, 16}},
		{"lit 9", "0080 :\n  0082 lit 9\n  0086 exit\n", []uint16{1, 6, 9, 16}},
		{"lit 10", "0080 :\n  0082 lit 10\n  0086 exit\n", []uint16{1, 6, 10, 16}},
		{"lit 32768", "0080 :\n  0082 lit 32768\n  0086 exit\n", []uint16{1, 6, 32768, 16}},
		{"lit 65535", "0080 :\n  0082 lit 65535\n  0086 exit\n", []uint16{1, 6, 65535, 16}},
		{"branch", "0080 :\n  0082 branch 0082\n", []uint16{1, 8, 130}},
		{"branch on", "0080 :\n  0082 branch 0088\n  0088 halt\n", []uint16{1, 8, 136, 0, 22}},
		{"zbranch", "0080 :\n  0082 zbranch 008a\n  0086 exit\n  008a exit\n", []uint16{1, 10, 138, 16, 0, 16}},
		{"loop", "0080 :\n  0082 do\n  0084 loop 0084\n  0088 exit\n", []uint16{1, 12, 14, 132, 16}},
		{"do", "0080 :\n  0082 do\n  0084 exit\n", []uint16{1, 12, 16}},
		{"exit", "0080 :\n  0082 exit\n", []uint16{1, 16}},
	} {
		wantLines(t, x.what, at128(x.cells...), x.want)
	}
	for i, name := range strings.Fields(sources.Primitives) {
		op := uint16(9 + i)
		want := "0080 :\n  0082 " + name + "\n"
		if op != 11 { // halt leads to nothing
			want += "  0084 exit\n"
		}
		wantLines(t, name, at128(1, 2*op, 16), want)
	}
}

// atTheEnd is code of so many bytes with these cells at its end, where its entry is.
func atTheEnd(bytes int, cells ...uint16) api.Cart {
	all := make([]uint16, bytes/2)
	copy(all, carts.Threads())
	copy(all[len(all)-len(cells):], cells)
	return api.Cart{Code: carts.Code(all...), Entry: uint16(bytes - 2*len(cells))}
}

func TestListingOfAddresses(t *testing.T) { // P23.1: four digits, with letters and without, the first and the last that there may be
	wantLines(t, "at 0", api.Cart{Code: carts.Code(1, 4, 8)}, "0000 :\n  0002 exit\n")
	wantLines(t, "behind 99", atTheEnd(160, 1, 8, 156), "009a :\n  009c branch 009c\n")
	wantLines(t, "a number is no address", atTheEnd(512, 1, 6, 511, 16), "01f8 :\n  01fa lit 511\n  01fe exit\n")
	wantLines(t, "up to 0fff", atTheEnd(4096, 1, 18, 8, 4090), "0ff8 :\n  0ffa nop\n  0ffc branch 0ffa\n")
	wantLines(t, "around 1234", atTheEnd(4668, 1, 12, 14, 4662, 16), "1232 :\n  1234 do\n  1236 loop 1236\n  123a exit\n")
	wantLines(t, "up to 3fff", atTheEnd(16384, 1, 18, 10, 16376, 16), "3ff6 :\n  3ff8 nop\n  3ffa zbranch 3ff8\n  3ffe exit\n")
}

func TestListingOfSeveralWords(t *testing.T) { // P23.1, P23.7: by their code fields, each with its own instructions alone
	wantLines(t, "main ahead of those that it calls in another order", at128(1, 140, 136, 16, 1, 16, 1, 136, 16),
		"0080 :\n  0082 call 008c\n  0084 call 0088\n  0086 exit\n0088 :\n  008a exit\n008c :\n  008e call 0088\n  0090 exit\n")
	wantLines(t, "main behind", carts.Of(132, 1, 16, 1, 128, 16), "0080 :\n  0082 exit\n0084 :\n  0086 call 0080\n  0088 exit\n")
	wantLines(t, "a word that lies within main's reach", at128(1, 138, 8, 142, 0, 1, 16, 16),
		"0080 :\n  0082 call 008a\n  0084 branch 008e\n  008e exit\n008a :\n  008c exit\n")
	wantLines(t, "a word that goes on in another's operand", at128(1, 138, 6, 16, 16, 1, 8, 134),
		"0080 :\n  0082 call 008a\n  0084 lit 16\n  0088 exit\n008a :\n  0086 exit\n  008c branch 0086\n")
	wantLines(t, "words that are never called", carts.Of(132, 1, 16, 1, 16, 1, 16), "0084 :\n  0086 exit\n")
	wantLines(t, "instructions to which nothing leads", at128(1, 16, 18, 132, 0, 16), "0080 :\n  0082 exit\n")
	wantLines(t, "a call behind halt", at128(1, 22, 136, 16, 1, 16), "0080 :\n  0082 halt\n")
	wantLines(t, "a word that calls itself", at128(1, 128, 16), "0080 :\n  0082 call 0080\n  0084 exit\n")
	wantLines(t, "a word called twice", at128(1, 136, 136, 16, 1, 16), "0080 :\n  0082 call 0088\n  0084 call 0088\n  0086 exit\n0088 :\n  008a exit\n")
}

// lineOf says a row of P23.1's table a second time.
func lineOf(x flow.Instr) string {
	below9 := strings.Fields("none call const lit branch zbranch do loop exit")
	switch x.Op {
	case 1:
		return fmt.Sprintf("call %04x", x.Word)
	case 2, 3:
		return fmt.Sprintf("%s %d", below9[x.Op], x.Operand)
	case 4, 5, 7:
		return fmt.Sprintf("%s %04x", below9[x.Op], x.Operand)
	case 6, 8:
		return below9[x.Op]
	}
	return strings.Fields(sources.Primitives)[x.Op-9]
}

// wantListing asks for the lines of just the words and instructions that flow.Words tells, or for its verdict; it tells how many lines there are.
func wantListing(t *testing.T, what string, c api.Cart) int {
	t.Helper()
	ws, want := flow.Words(c)
	var lines []string
	for _, w := range ws {
		lines = append(lines, fmt.Sprintf("%04x :\n", w.At))
		for _, x := range w.Instrs {
			lines = append(lines, fmt.Sprintf("  %04x %s\n", x.At, lineOf(x)))
		}
	}
	if s, v := dis.Listing(c); s != strings.Join(lines, "") || v != want {
		t.Fatalf("P23.1, P23.7: %s: %v: Listing = %q, %v, want %q, %v", what, c, s, v, lines, want)
	}
	return len(lines)
}

func TestDrawnListings(t *testing.T) { // P23.1, P23.7: of cartridges of all sorts, and of sources, some of whose cells are changed
	t.Parallel()
	r := rand.New(rand.NewSource(2307))
	listed, refused := 0, 0
	for range 6000 {
		c := carts.Any(r)
		if r.Intn(3) == 0 {
			c = carts.Changed(r, cartOf(t, sources.New(r).Some()), r.Intn(3))
		}
		if wantListing(t, "a drawn cartridge", c) > 0 {
			listed++
		} else {
			refused++
		}
	}
	if listed < 1500 || refused < 1500 {
		t.Errorf("%d were listed, %d refused", listed, refused)
	}
}

func TestListingsOfTypableSources(t *testing.T) { // P23.1, P23.7: long ones, too
	for _, src := range sources.Typable() {
		wantListing(t, src, cartOf(t, src))
	}
}
