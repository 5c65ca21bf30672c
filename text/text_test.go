package text_test

import (
	"fmt"
	"math"
	"math/big"
	"math/rand"
	"regexp"
	"slices"
	"strings"
	"testing"

	"wisp/api"
	"wisp/text"
)

// The errors by the document's numbers, not by api's names: a slip in one of the two must show.
const (
	noNumeral = 20
	noCell    = 21
)

// The forms of 2.1, said once more as patterns; a byte that is part of no letter matches none of them.
var (
	decimal     = regexp.MustCompile(`\A-?[0-9]+\z`)
	hexadecimal = regexp.MustCompile(`\A\$[0-9a-f]+\z`)
	binary      = regexp.MustCompile(`\A%[01]+\z`)
	ofByte      = regexp.MustCompile(`\A'[!-~]'\z`)
)

// numeral says 2.1 and 2.2 by numbers of any size.
func numeral(s string) (uint16, api.Errno) {
	base, digits := 10, s
	switch {
	case ofByte.MatchString(s):
		return uint16(s[1]), 0
	case hexadecimal.MatchString(s):
		base, digits = 16, s[1:]
	case binary.MatchString(s):
		base, digits = 2, s[1:]
	case !decimal.MatchString(s):
		return 0, noNumeral
	}
	n, ok := new(big.Int).SetString(digits, base)
	if !ok {
		panic("a pattern that is wrong: " + s)
	}
	if n.Cmp(big.NewInt(-32768)) < 0 || n.Cmp(big.NewInt(65535)) > 0 {
		return 0, noCell
	}
	return uint16((n.Int64() + 65536) % 65536), 0
}

// isName says 2.4 likewise.
func isName(s string) bool {
	form := regexp.MustCompile(`\A[!-~]{1,31}\z`)
	_, e := numeral(s)
	return form.MatchString(s) && e == noNumeral && s != `\` && s != `(`
}

func wantNumeral(t *testing.T, s string, x uint16, e api.Errno) {
	t.Helper()
	if y, f := text.Numeral(s); y != x || f != e {
		t.Errorf("Numeral(%s) = %d, %d, want %d, %d", brief(s), y, f, x, e)
	}
}

func brief(s string) string {
	if len(s) > 80 {
		return fmt.Sprintf("%q.. of %d bytes", s[:80], len(s))
	}
	return fmt.Sprintf("%q", s)
}

// words gives every text of at most that many bytes out of some.
func words(some string, most int, give func(s string)) {
	give("")
	if most == 0 {
		return
	}
	for i := range len(some) {
		words(some, most-1, func(s string) { give(some[i:i+1] + s) })
	}
}

// telling has a byte of each kind that a numeral or a name tells apart, and those beside them.
const telling = "\x00\n !/0129:@FG`afgz~\x7f\x80\xc3\xa9\xff$%'-+(\\"

func TestNumeralOfEveryShortText(t *testing.T) { // 2.1, 2.2
	words(telling, 3, func(s string) {
		x, e := numeral(s)
		wantNumeral(t, s, x, e)
	})
}

func TestNumeralOfOneByte(t *testing.T) { // 2.1
	for b := range 256 {
		s := string([]byte{byte(b)})
		if b >= '0' && b <= '9' {
			wantNumeral(t, s, uint16(b-'0'), 0)
		} else {
			wantNumeral(t, s, 0, noNumeral)
		}
	}
}

func TestNumeralOfDigits(t *testing.T) { // 2.1: each byte as a digit of each form
	for b := range 256 {
		for _, sign := range []string{"", "-", "$", "%", "1", "-1", "$1", "%1"} {
			s := sign + string([]byte{byte(b)})
			x, e := numeral(s)
			wantNumeral(t, s, x, e)
			x, e = numeral(s + "1")
			wantNumeral(t, s+"1", x, e)
		}
	}
}

func TestNumeralOfByte(t *testing.T) { // 2.1
	for b := range 256 {
		s := "'" + string([]byte{byte(b)}) + "'"
		if b >= 33 && b <= 126 {
			wantNumeral(t, s, uint16(b), 0)
		} else {
			wantNumeral(t, s, 0, noNumeral)
		}
	}
	for _, s := range []string{"'", "''", "'a", "a'", "''a", "a''", "'a\"", "\"a'", "''''", "'ab'", "'é'", "0'a'", "'a'0", "-'a'", "'\x00a'"} {
		wantNumeral(t, s, 0, noNumeral)
	}
}

func TestNumeralsAtTheEdges(t *testing.T) { // 2.2
	for n := -70000; n <= 140000; n++ {
		want, e := uint16(((n%65536)+65536)%65536), api.Errno(0)
		if n < -32768 || n > 65535 {
			want, e = 0, noCell
		}
		wantNumeral(t, fmt.Sprint(n), want, e)
		if n >= 0 {
			wantNumeral(t, fmt.Sprintf("$%x", n), want, e)
			wantNumeral(t, fmt.Sprintf("%%%b", n), want, e)
		}
	}
}

func TestZerosInFront(t *testing.T) { // 2.2
	for _, many := range []int{1, 2, 15, 16, 17, 64, 700, 100000} {
		zeros := strings.Repeat("0", many)
		for _, c := range []struct {
			s string
			x uint16
			e api.Errno
		}{
			{zeros, 0, 0}, {zeros + "7", 7, 0}, {zeros + "65535", 65535, 0}, {zeros + "65536", 0, noCell},
			{"-" + zeros, 0, 0}, {"-" + zeros + "1", 65535, 0}, {"-" + zeros + "32768", 32768, 0}, {"-" + zeros + "32769", 0, noCell},
			{"$" + zeros, 0, 0}, {"$" + zeros + "ffff", 65535, 0}, {"$" + zeros + "10000", 0, noCell},
			{"%" + zeros, 0, 0}, {"%" + zeros + "1111111111111111", 65535, 0}, {"%" + zeros + "10000000000000000", 0, noCell},
			{"'" + zeros + "a'", 0, noNumeral}, {zeros + "'a'", 0, noNumeral},
		} {
			wantNumeral(t, c.s, c.x, c.e)
		}
	}
}

func TestManyDigits(t *testing.T) { // 2.2: far more than any number of the machine has
	for _, many := range []int{17, 19, 20, 21, 32, 33, 64, 65, 128, 500, 100000} {
		for _, s := range []string{
			strings.Repeat("9", many), "-" + strings.Repeat("9", many), "1" + strings.Repeat("0", many), "-1" + strings.Repeat("0", many),
			"$" + strings.Repeat("f", many), "$1" + strings.Repeat("0", many), "%" + strings.Repeat("1", many), "%1" + strings.Repeat("0", many),
		} {
			wantNumeral(t, s, 0, noCell)
		}
	}
	// Those that are a small number more than a power of 2 would look small where digits wrap round.
	for bits := uint(16); bits <= 600; bits++ {
		for _, more := range []int64{0, 1, 7, 65535} {
			n := new(big.Int).Lsh(big.NewInt(1), bits)
			n.Add(n, big.NewInt(more))
			for _, s := range []string{n.Text(10), "-" + n.Text(10), "$" + n.Text(16), "%" + n.Text(2)} {
				wantNumeral(t, s, 0, noCell)
			}
		}
	}
}

func TestSpoiltByOneByte(t *testing.T) { // 2.1, 2.2: of no form, also where it would be too great
	for _, s := range []string{
		"7", "32768", "65536", "-1", "-32769", "$beef", "$10000", "%101", "%10000000000000000",
		strings.Repeat("0", 300) + "5", strings.Repeat("9", 300), "-" + strings.Repeat("8", 300), "$" + strings.Repeat("e", 300), "%" + strings.Repeat("1", 300),
	} {
		if _, e := text.Numeral(s); e == noNumeral {
			t.Errorf("Numeral(%s): no numeral", brief(s))
		}
		for _, spoilt := range "\x00\t\n .AFGXZ_gxz+-$%'\x7f\u0663\u00e9" {
			for at := 1; at <= len(s); at++ {
				wantNumeral(t, s[:at]+string(spoilt)+s[at:], 0, noNumeral)
			}
		}
		for _, spoilt := range []string{"\x80", "\xb1", "\xc3", "\xff"} {
			for at := 0; at <= len(s); at++ {
				wantNumeral(t, s[:at]+spoilt+s[at:], 0, noNumeral)
			}
		}
	}
	for _, sign := range []string{"-", "$", "%", "+", "--", "-$", "$-", "%-", "-%", "$$", "%%", "+1", " 1", "1 ", "1-", "1$"} {
		wantNumeral(t, sign, 0, noNumeral)
	}
}

func TestDecimal(t *testing.T) { // 2.3
	for x := range 65536 {
		if s := text.Decimal(uint16(x)); s != fmt.Sprint(x) {
			t.Fatalf("Decimal(%d) = %q", x, s)
		}
	}
}

func TestHex(t *testing.T) { // 2.3
	for x := range 65536 {
		if s := text.Hex(uint16(x)); s != fmt.Sprintf("$%04x", x) {
			t.Fatalf("Hex(%d) = %q", x, s)
		}
	}
}

func TestNameOfEveryShortText(t *testing.T) { // 2.4
	words(telling, 3, func(s string) {
		if got, want := text.Name(s), isName(s); got != want {
			t.Errorf("Name(%q) = %v", s, got)
		}
	})
}

func TestNameByItsBytes(t *testing.T) { // 2.4
	for b := range 256 {
		for _, around := range [][2]string{{"", ""}, {"x", ""}, {"", "x"}, {"ab", "yz"}} {
			s := around[0] + string([]byte{byte(b)}) + around[1]
			if got, want := text.Name(s), isName(s); got != want {
				t.Errorf("Name(%q) = %v", s, got)
			}
		}
	}
}

func TestNameByItsLength(t *testing.T) { // 2.4
	for n := range 200 {
		if got, want := text.Name(strings.Repeat("x", n)), n >= 1 && n <= 31; got != want {
			t.Errorf("Name of %d bytes = %v", n, got)
		}
		if text.Name(strings.Repeat("é", n)) {
			t.Errorf("Name of %d letters that are no bytes = true", n)
		}
	}
}

func TestNameOfNoCell(t *testing.T) { // 2.4
	for _, s := range []string{"65536", "-32769", "$10000", "%10000000000000000", strings.Repeat("9", 31), "-" + strings.Repeat("9", 30), "$" + strings.Repeat("f", 30), "%" + strings.Repeat("1", 30)} {
		if text.Name(s) {
			t.Errorf("Name(%q) = true", s)
		}
	}
}

func TestNamesNearTheTwo(t *testing.T) { // 2.4: \ and ( are none alone
	for _, s := range []string{`\\`, `((`, `\(`, `(\`, `(x`, `x(`, `\x`, `x\`, `)`, `/`} {
		if !text.Name(s) {
			t.Errorf("Name(%q) = false", s)
		}
	}
	if text.Name(`\`) || text.Name(`(`) {
		t.Error(`\ or ( is a name`)
	}
}

// place says 2.5 of one offset.
func place(src string, off int) api.Pos {
	if off < 0 {
		off = 0
	}
	if off > len(src) {
		off = len(src)
	}
	ahead := src[:off]
	return api.Pos{Line: 1 + strings.Count(ahead, "\n"), Col: off - strings.LastIndexByte(ahead, 10)}
}

// texts have bytes of every kind: ends of lines at either end and one behind another, bytes below 32, letters of two, three and four bytes, and bytes that are parts of letters that never become whole.
func texts() []string {
	every := make([]byte, 0, 512)
	for b := range 256 {
		every = append(every, byte(b), byte(255-b))
	}
	list := []string{
		"", "\n", "\n\n\n", "a", "a\n", "\na", "ab\ncd\n", "ab\ncd", "\r\n\r\n", "\x00\n\x00", "\v\f\u0085\u2028\u2029\n",
		"é\nü", "€\n€\n", "😀\n\n😀", "\xc3\n\xa9", "\xe2\x82\n\xac", "\xf0\x9f\n\x98\n\x80", "\xff\n\xfe\n", "\x80\x80\n\x80", "\xc3", "\xe2\x82", "\xed\xa0\x80\n", "\xc0\x8a\n", "\ufeff\n\ufffd\n",
		string(every), strings.Repeat("word \n", 300), strings.Repeat("\n", 300), strings.Repeat("\xf0\n", 100),
	}
	random := rand.New(rand.NewSource(2))
	for range 60 {
		some := make([]byte, random.Intn(80))
		for i := range some {
			some[i] = []byte("\n\n\nab\x00\x1f\xc3\xa9\xe2\x82\xac\xf0\x9f\xff")[random.Intn(15)]
		}
		list = append(list, string(some))
	}
	return list
}

func wantPlaces(t *testing.T, src string, offs ...int) {
	t.Helper()
	places := text.Places(src, offs...)
	if len(places) != len(offs) {
		t.Fatalf("Places(%q, %d offsets): %d places", src, len(offs), len(places))
	}
	for i, off := range offs {
		if want := place(src, off); places[i] != want {
			t.Errorf("Places(%q, %v): the place of %d is %v, want %v", src, offs, off, places[i], want)
		}
	}
}

func TestPlacesOfEachOffset(t *testing.T) { // 2.5
	for _, src := range texts() {
		var all []int
		for off := -3; off <= len(src)+3; off++ {
			wantPlaces(t, src, off)
			all = append(all, off)
		}
		wantPlaces(t, src, all...)
		slices.Reverse(all)
		wantPlaces(t, src, all...)
	}
}

func TestPlacesInTheirOrder(t *testing.T) { // 2.5: in no order, and the same ones again
	random := rand.New(rand.NewSource(5))
	for _, src := range texts() {
		for range 30 {
			offs := make([]int, random.Intn(40))
			for i := range offs {
				offs[i] = random.Intn(len(src)+9) - 4
			}
			wantPlaces(t, src, offs...)
			wantPlaces(t, src, append(offs, offs...)...)
		}
	}
}

func TestPlacesOfNone(t *testing.T) { // 2.5
	for _, src := range texts() {
		if l := text.Places(src); len(l) != 0 {
			t.Errorf("Places(%q) = %v", src, l)
		}
		if l := text.Places(src, []int{}...); len(l) != 0 {
			t.Errorf("Places(%q) = %v", src, l)
		}
	}
}

func TestPlacesBeyond(t *testing.T) { // 2.5
	for _, src := range texts() {
		wantPlaces(t, src, math.MinInt, math.MaxInt, 0, math.MinInt+1, math.MaxInt-1, len(src), -1, len(src)+1, math.MaxInt32+1, math.MinInt32-1)
	}
}

func TestPlacesLeaveTheirList(t *testing.T) { // R3
	offs := []int{6, -5, 99, 0, 3, 3, 1, 2, math.MaxInt, 77, 88}
	before := slices.Clone(offs)
	given := offs[1:8]
	first := text.Places("ab\ncd\n", given...)
	if !slices.Equal(offs, before) {
		t.Errorf("the list that was handed in is %v, was %v", offs, before)
	}
	want := slices.Clone(first)
	second := text.Places("ab\ncd\n", given...)
	for i := range given {
		given[i] = 4
	}
	if !slices.Equal(first, want) {
		t.Errorf("the answer %v has gone with the list, was %v", first, want)
	}
	second = second[:cap(second)]
	for i := range second {
		second[i] = api.Pos{Line: -1, Col: -1}
	}
	if !slices.Equal(first, want) || !slices.Equal(offs[8:], before[8:]) {
		t.Error("two answers share room, or an answer and the list")
	}
}

func TestManyPlacesInALongText(t *testing.T) { // R1: a walk for each of the offsets would pass the time that a test has
	for _, src := range []string{strings.Repeat("\n", 1<<20), strings.Repeat("a", 1<<20)} {
		offs := make([]int, 1<<20)
		for i := range offs {
			offs[i] = (i * 7919) % len(src)
		}
		places := text.Places(src, offs...)
		for i, off := range offs {
			want := api.Pos{Line: 1, Col: off + 1}
			if src[0] == '\n' {
				want = api.Pos{Line: off + 1, Col: 1}
			}
			if places[i] != want {
				t.Fatalf("the place of %d is %v, want %v", off, places[i], want)
			}
		}
	}
}

func TestNumeralsComeBack(t *testing.T) { // 2.6
	for x := range 65536 {
		if y, e := text.Numeral(text.Decimal(uint16(x))); int(y) != x || e != 0 {
			t.Fatalf("Numeral(Decimal(%d)) = %d, %d", x, y, e)
		}
		if y, e := text.Numeral(text.Hex(uint16(x))); int(y) != x || e != 0 {
			t.Fatalf("Numeral(Hex(%d)) = %d, %d", x, y, e)
		}
	}
}

func TestNumeralsAreNoNames(t *testing.T) { // 2.7
	numerals := 0
	try := func(s string) {
		if _, e := text.Numeral(s); e != noNumeral {
			numerals++
			if text.Name(s) {
				t.Errorf("%q is a numeral and a name", s)
			}
		}
	}
	words("01289af-$%'", 5, try)
	for x := range 140000 {
		try(fmt.Sprint(x))
		try(fmt.Sprint(-x))
		try(fmt.Sprintf("$%x", x))
		try(fmt.Sprintf("%%%b", x))
	}
	for b := range 256 {
		try("'" + string([]byte{byte(b)}) + "'")
	}
	if numerals < 4*140000 {
		t.Errorf("of the texts just %d were numerals", numerals)
	}
}

func TestPlacesRise(t *testing.T) { // 2.8
	for _, src := range texts() {
		last := text.Places(src, 0)[0]
		if last != (api.Pos{Line: 1, Col: 1}) {
			t.Errorf("the place of 0 in %q is %v", src, last)
		}
		for off := 1; off <= len(src); off++ {
			next := text.Places(src, off)[0]
			if next.Line < last.Line || next.Line == last.Line && next.Col <= last.Col {
				t.Errorf("in %q %v comes behind %v", src, next, last)
			}
			last = next
		}
	}
}

func TestPlacesHangOnWhatIsAhead(t *testing.T) { // 2.8
	for _, src := range texts() {
		for off := range len(src) + 1 {
			want := text.Places(src, off)[0]
			for _, behind := range []string{"", "\n", "x\n\n", "\x80\n", "\xbf\xbf\xbf", "é"} {
				if got := text.Places(src[:off]+behind, off)[0]; got != want {
					t.Errorf("the place of %d in %q is %v, and with %q behind it %v", off, src, want, behind, got)
				}
			}
			if got := text.Places(src, len(src), off, 0, off)[1]; got != want {
				t.Errorf("the place of %d in %q is %v alone, and %v beside others", off, src, want, got)
			}
		}
	}
}

func TestExampleNumerals(t *testing.T) { // chapter 2, examples 1 and 2
	for s, x := range map[string]uint16{"7": 7, "-1": 65535, "0065535": 65535, "-32768": 32768, "-0": 0, "$ff": 255, "%101": 5, "'a'": 97, "'''": 39} {
		wantNumeral(t, s, x, 0)
	}
	for _, s := range []string{"65536", "-32769", "$00010000"} {
		wantNumeral(t, s, 0, noCell)
	}
	for _, s := range []string{"", "-", "$", "%", "$FF", "%2", "1a", "--1", "+1", "''", "'ab'", "' '"} {
		wantNumeral(t, s, 0, noNumeral)
	}
}

func TestExampleCells(t *testing.T) { // chapter 2, example 3
	for x, want := range map[uint16]string{0: "0", 65535: "65535"} {
		if s := text.Decimal(x); s != want {
			t.Errorf("Decimal(%d) = %q", x, s)
		}
	}
	for x, want := range map[uint16]string{0: "$0000", 48879: "$beef"} {
		if s := text.Hex(x); s != want {
			t.Errorf("Hex(%d) = %q", x, s)
		}
	}
}

func TestExampleNames(t *testing.T) { // chapter 2, example 4
	for _, s := range []string{"x", "2dup", "-", "$", "$g", "'", "a'b", "\\x"} {
		if !text.Name(s) {
			t.Errorf("Name(%q) = false", s)
		}
	}
	for _, s := range []string{"", "7", "-1", "70000", "(", "\\", "a b", strings.Repeat("w", 32), "é"} {
		if text.Name(s) {
			t.Errorf("Name(%q) = true", s)
		}
	}
}

func TestExamplePlaces(t *testing.T) { // chapter 2, example 5
	want := []api.Pos{{Line: 1, Col: 1}, {Line: 1, Col: 2}, {Line: 1, Col: 3}, {Line: 2, Col: 1}, {Line: 3, Col: 1}, {Line: 3, Col: 1}, {Line: 1, Col: 1}}
	if got := text.Places("ab\ncd\n", 0, 1, 2, 3, 6, 99, -5); !slices.Equal(got, want) {
		t.Errorf("Places = %v, want %v", got, want)
	}
}
