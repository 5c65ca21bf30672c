package token_test

import (
	"bytes"
	"fmt"
	"math/big"
	"math/rand"
	"regexp"
	"slices"
	"strings"
	"testing"

	"wisp/api"
	"wisp/sources"
	"wisp/token"
)

// The errors, kinds and limits by the document's numbers, not by api's names: a slip in one of the two must show.
const (
	fine      = api.Errno(0)
	noCell    = api.Errno(21)
	tooLong   = api.Errno(90)
	badByte   = api.Errno(91)
	stillOpen = api.Errno(92)
	tooWide   = api.Errno(93)

	aWord   = 1
	aNumber = 2

	maxSource = 65536
	maxWord   = 31
)

func word(s string, line, col int) api.Token {
	return api.Token{Kind: aWord, Text: s, Pos: api.Pos{Line: line, Col: col}}
}

func number(s string, x uint16, line, col int) api.Token {
	return api.Token{Kind: aNumber, Text: s, Value: x, Pos: api.Pos{Line: line, Col: col}}
}

func brief(s string) string {
	if len(s) > 80 {
		return fmt.Sprintf("%q.. of %d bytes", s[:80], len(s))
	}
	return fmt.Sprintf("%q", s)
}

// wantTokens holds Scan to just these tokens.
func wantTokens(t *testing.T, src string, want ...api.Token) {
	t.Helper()
	got, pos, e := token.Scan(src)
	if e != fine || pos != (api.Pos{}) || !slices.Equal(got, want) {
		t.Errorf("Scan(%s) = %.300s, %v, %d, want %.300s", brief(src), fmt.Sprint(got), pos, e, fmt.Sprint(want))
	}
}

// wantWords holds Scan to words that stand one behind the other with any places.
func wantWords(t *testing.T, src string, want ...string) {
	t.Helper()
	got, pos, e := token.Scan(src)
	if e != fine || pos != (api.Pos{}) || !slices.Equal(texts(got), want) {
		t.Errorf("Scan(%s) = %.300s, %v, %d, want the words %.300q", brief(src), fmt.Sprint(got), pos, e, want)
	}
}

func texts(tokens []api.Token) []string {
	var list []string
	for _, tok := range tokens {
		list = append(list, tok.Text)
	}
	return list
}

// wantError holds Scan to one error, at its place, and to no tokens beside it.
func wantError(t *testing.T, src string, line, col int, want api.Errno) {
	t.Helper()
	got, pos, e := token.Scan(src)
	if e != want || pos != (api.Pos{Line: line, Col: col}) || len(got) != 0 {
		t.Errorf("Scan(%s) = %.300s, %v, %d, want %d at %d:%d", brief(src), fmt.Sprint(got), pos, e, want, line, col)
	}
}

// model says P9.1 to P9.3 once more, byte by byte, as a machine of four states that counts lines and columns as it goes.
type model struct {
	state           int
	line, col       int
	begin           api.Pos // of the word or the comment in which it stands
	word            []byte
	tokens          []api.Token
	wrong           api.Errno
	wrongAt         api.Pos
	lines, brackets int // how many comments of each kind have begun
}

const (
	between = iota
	inWord
	inLine
	inBrackets
)

func modelled(src string) *model {
	m := &model{line: 1, col: 1}
	if len(src) > maxSource {
		m.wrong, m.wrongAt = tooLong, api.Pos{Line: 1, Col: 1}
		return m
	}
	for i := range len(src) {
		m.take(src[i])
		if m.wrong != fine {
			return m
		}
	}
	m.endWord()
	if m.state == inBrackets {
		m.fail(stillOpen, m.begin)
	}
	return m
}

func (m *model) here() api.Pos { return api.Pos{Line: m.line, Col: m.col} }

func (m *model) fail(e api.Errno, pos api.Pos) {
	if m.wrong == fine {
		m.wrong, m.wrongAt, m.tokens = e, pos, nil
	}
}

func (m *model) take(b byte) {
	if b >= 33 && b <= 126 {
		m.takeVisible(b)
	} else {
		m.endWord()
		if m.state == inLine && b == 10 {
			m.state = between
		}
		if m.state == between && b != 9 && b != 10 && b != 13 && b != 32 {
			m.fail(badByte, m.here())
		}
	}
	m.col++
	if b == 10 {
		m.line, m.col = m.line+1, 1
	}
}

func (m *model) takeVisible(b byte) {
	switch m.state {
	case between:
		m.state, m.begin, m.word = inWord, m.here(), []byte{b}
	case inWord:
		m.word = append(m.word, b)
	case inBrackets:
		if b == ')' {
			m.state = between
		}
	}
}

func (m *model) endWord() {
	if m.state != inWord {
		return
	}
	s := string(m.word)
	switch s {
	case `\`:
		m.state = inLine
		m.lines++
		return
	case "(":
		m.state = inBrackets
		m.brackets++
		return
	}
	m.state = between
	x, isNumber, great := numeral(s)
	switch {
	case len(s) > maxWord:
		m.fail(tooWide, m.begin)
	case great:
		m.fail(noCell, m.begin)
	case isNumber:
		m.tokens = append(m.tokens, api.Token{Kind: aNumber, Text: s, Value: x, Pos: m.begin})
	default:
		m.tokens = append(m.tokens, api.Token{Kind: aWord, Text: s, Pos: m.begin})
	}
}

var numerals = regexp.MustCompile(`\A(?:(-?[0-9]+)|\$([0-9a-f]+)|%([01]+)|'([!-~])')\z`)

// numeral says by numbers of any size what a word's number is.
func numeral(s string) (x uint16, isNumber, great bool) {
	parts := numerals.FindStringSubmatch(s)
	if parts == nil {
		return 0, false, false
	}
	n := new(big.Int)
	switch {
	case parts[1] != "":
		n.SetString(parts[1], 10)
	case parts[2] != "":
		n.SetString(parts[2], 16)
	case parts[3] != "":
		n.SetString(parts[3], 2)
	default:
		n.SetInt64(int64(parts[4][0]))
	}
	if n.Cmp(big.NewInt(-32768)) < 0 || n.Cmp(big.NewInt(65535)) > 0 {
		return 0, true, true
	}
	return uint16((n.Int64() + 65536) % 65536), true, false
}

// holdToModel holds Scan and End to the model, and what is scanned to P9.5.
func holdToModel(t *testing.T, src string) *model {
	t.Helper()
	m := modelled(src)
	if m.wrong == fine {
		wantTokens(t, src, m.tokens...)
		standInTheText(t, src)
	} else {
		wantError(t, src, m.wrongAt.Line, m.wrongAt.Col, m.wrong)
	}
	holdEnd(t, src)
	return m
}

// holdEnd holds End to a count of the bytes.
func holdEnd(t *testing.T, src string) {
	t.Helper()
	b := []byte(src)
	want := api.Pos{Line: bytes.Count(b, []byte{10}) + 1, Col: len(b) - (bytes.LastIndexByte(b, 10) + 1) + 1}
	if got := token.End(src); got != want {
		t.Errorf("End(%s) = %v, want %v", brief(src), got, want)
	}
}

// standInTheText holds P9.5.
func standInTheText(t *testing.T, src string) {
	t.Helper()
	tokens, _, _ := token.Scan(src)
	lines := strings.SplitAfter(src, "\n")
	begins := []int{0}
	for _, line := range lines {
		begins = append(begins, begins[len(begins)-1]+len(line))
	}
	end := 0
	for i, tok := range tokens {
		if tok.Text == "" || tok.Pos.Line < 1 || tok.Pos.Line > len(lines) || tok.Pos.Col < 1 {
			t.Errorf("Scan(%s): token %d is %v", brief(src), i, tok)
			return
		}
		at := begins[tok.Pos.Line-1] + tok.Pos.Col - 1
		if at < end || !strings.HasPrefix(lines[tok.Pos.Line-1][min(tok.Pos.Col-1, len(lines[tok.Pos.Line-1])):], tok.Text) {
			t.Errorf("Scan(%s): token %d, %v, does not stand there", brief(src), i, tok)
			return
		}
		end = at + len(tok.Text)
	}
}

func TestExample1(t *testing.T) { // P9.2, P9.3
	wantTokens(t, ": a 1 + ;", word(":", 1, 1), word("a", 1, 3), number("1", 1, 1, 5), word("+", 1, 7), word(";", 1, 9))
	if got := token.End(": a 1 + ;"); got != (api.Pos{Line: 1, Col: 10}) {
		t.Errorf("End = %v", got)
	}
}

func TestExample2(t *testing.T) { // P9.1, P9.2
	wantTokens(t, "\\ hi\n( x\ny)dup", word("dup", 3, 3))
	wantTokens(t, `a\b`, word(`a\b`, 1, 1))
	wantTokens(t, "(a) b", word("(a)", 1, 1), word("b", 1, 5))
	wantError(t, "( a", 1, 1, stillOpen)
	wantTokens(t, ") b", word(")", 1, 1), word("b", 1, 3))
}

func TestExample3(t *testing.T) { // P9.1 to P9.3
	wantTokens(t, "a\tb\r\nc", word("a", 1, 1), word("b", 1, 3), word("c", 2, 1))
	wantError(t, "a\x00b", 1, 2, badByte)
	wantError(t, "\xc3\xa9", 1, 1, badByte)
	wantTokens(t, "\\ \xc3\xa9")
}

func TestExample4(t *testing.T) { // P9.2
	wantError(t, "70000", 1, 1, noCell)
	wantTokens(t, "-1", number("-1", 65535, 1, 1))
	wantTokens(t, "1x", word("1x", 1, 1))
	wantError(t, strings.Repeat("w", 32), 1, 1, tooWide)
	wantTokens(t, strings.Repeat("w", 31), word(strings.Repeat("w", 31), 1, 1))
}

func TestExample5(t *testing.T) { // P9.2
	wantTokens(t, "")
	wantError(t, strings.Repeat(" ", 65537), 1, 1, tooLong)
}

func TestBlanks(t *testing.T) { // P9.1: the four of them, ahead of a word, between two, behind one
	for _, c := range []struct {
		blank     string
		line, col int // of what stands behind it at a text's beginning
	}{{"\t", 1, 2}, {"\n", 2, 1}, {"\r", 1, 2}, {" ", 1, 2}} {
		wantTokens(t, c.blank)
		wantTokens(t, c.blank+"a", word("a", c.line, c.col))
		wantTokens(t, "a"+c.blank, word("a", 1, 1))
		behind := word("b", c.line, c.col)
		if c.line == 1 {
			behind.Pos.Col++
		}
		wantTokens(t, "a"+c.blank+"b", word("a", 1, 1), behind)
		wantTokens(t, c.blank+c.blank+c.blank)
	}
}

// allBytes gives each byte as a text of one.
func allBytes(give func(b byte, s string)) {
	for b := range 256 {
		give(byte(b), string([]byte{byte(b)}))
	}
}

func TestBytesOutsideComments(t *testing.T) { // P9.1, P9.2: each byte
	allBytes(func(b byte, s string) {
		switch {
		case b == 9 || b == 10 || b == 13 || b == 32:
			wantWords(t, s)
			wantWords(t, "a"+s+"b", "a", "b")
		case b == '(':
			wantError(t, s, 1, 1, stillOpen)
			wantWords(t, "a"+s+"b", "a(b")
		case b == '\\':
			wantWords(t, s)
			wantWords(t, "a"+s+"b", `a\b`)
		case b >= 33 && b <= 126:
			wantWords(t, s, s)
			wantWords(t, "a"+s+"b", "a"+s+"b")
		default:
			wantError(t, s, 1, 1, badByte)
			wantError(t, "a"+s+"b", 1, 2, badByte)
			wantError(t, "a "+s, 1, 3, badByte)
			wantError(t, "a\n"+s, 2, 1, badByte)
			wantError(t, s+s, 1, 1, badByte)
			wantError(t, "( a)"+s, 1, 5, badByte)
			wantError(t, "\\ a\n"+s, 2, 1, badByte)
		}
		holdToModel(t, s)
		holdToModel(t, "a"+s+"b")
	})
}

func TestBytesInComments(t *testing.T) { // P9.1: each byte, also directly behind the word that begins the comment
	allBytes(func(b byte, s string) {
		if b != 10 {
			wantWords(t, `\ `+s+" c\nd", "d")
			wantWords(t, `\ `+s, []string{}...)
		} else {
			wantWords(t, `\ `+s+" c\nd", "c", "d")
			wantWords(t, `\`+s+"c", "c")
		}
		if b != ')' {
			wantWords(t, "( "+s+" c)d", "d")
			wantWords(t, "( "+s+")d", "d")
			wantError(t, "( "+s, 1, 1, stillOpen)
		} else {
			wantWords(t, "( "+s+" c)d", "c)d")
			wantWords(t, "( "+s, []string{}...)
		}
		// A byte that may not be in a word ends the word ( or \ as a blank does; it stands in the comment then.
		if b < 33 || b > 126 {
			wantWords(t, "("+s+")d", "d")
			if b != 10 {
				wantWords(t, `\`+s+"c\nd", "d")
			}
		} else {
			wantWords(t, "("+s+")d", "("+s+")d")
			wantWords(t, `\`+s+"c\nd", `\`+s+"c", "d")
		}
	})
}

func TestLineComments(t *testing.T) { // P9.1
	wantTokens(t, "\\ a b\nc", word("c", 2, 1))
	wantTokens(t, "\\\nc", word("c", 2, 1))
	wantTokens(t, "a \\ b\nc", word("a", 1, 1), word("c", 2, 1))
	wantTokens(t, `\`)
	wantTokens(t, `\ a`)
	wantTokens(t, "a \\", word("a", 1, 1))
	wantTokens(t, "\\ ( a\nb", word("b", 2, 1)) // the ( is the comment's: it opens nothing
	wantTokens(t, "\\ a ( b ) c\nd", word("d", 2, 1))
	wantTokens(t, "\\ \\ a\nb", word("b", 2, 1))
	wantTokens(t, "\\ a\rb\nc", word("c", 2, 1)) // the byte 13 ends no line
	wantTokens(t, "\\ a\n\\ b\n\\ c")
	wantTokens(t, "\\\n\\\nc", word("c", 3, 1))
	wantTokens(t, "\t\\ a\n c", word("c", 2, 2))
	wantTokens(t, "\\ "+strings.Repeat("w", 40)+" 70000\nc", word("c", 2, 1)) // no words are looked at there
	wantTokens(t, "\\\x00\nc", word("c", 2, 1))
}

func TestBracketComments(t *testing.T) { // P9.1
	wantTokens(t, "( a ) b", word("b", 1, 7))
	wantTokens(t, "( a\nb\n\n c ) d", word("d", 4, 6))
	wantTokens(t, "( )")
	wantTokens(t, "(\n)b", word("b", 2, 2))
	wantTokens(t, "( \\ a ) b", word("b", 1, 9))   // the \ is the comment's
	wantTokens(t, "( \\ a\n ) b", word("b", 2, 4)) // and is so to the closing bracket
	wantTokens(t, "( ( a ) b", word("b", 1, 9))    // one bracket closes it
	wantTokens(t, "( ( a ) b )", word("b", 1, 9), word(")", 1, 11))
	wantTokens(t, "( a)b", word("b", 1, 5))
	wantTokens(t, "( a)b)", word("b)", 1, 5))
	wantTokens(t, "( a)) b", word(")", 1, 5), word("b", 1, 7))
	wantTokens(t, "( a)7", number("7", 7, 1, 5))
	wantTokens(t, "( a)( b)c", word("c", 1, 9)) // a comment may begin directly behind one
	wantTokens(t, "( a)\\ b\nc", word("c", 2, 1))
	wantTokens(t, "( a)(b c", word("(b", 1, 5), word("c", 1, 8))
	wantTokens(t, "( a)\\b c", word("\\b", 1, 5), word("c", 1, 8))
	wantTokens(t, "( "+strings.Repeat("w", 40)+" 70000)c", word("c", 1, 50))
	wantTokens(t, "a ( b)c", word("a", 1, 1), word("c", 1, 7))
	wantTokens(t, "( a)"+strings.Repeat("w", 31), word(strings.Repeat("w", 31), 1, 5))
}

func TestCommentsThatDoNotEnd(t *testing.T) { // P9.2: ErrOpen, at its byte 40
	wantError(t, "(", 1, 1, stillOpen)
	wantError(t, "( ", 1, 1, stillOpen)
	wantError(t, "a (", 1, 3, stillOpen)
	wantError(t, "a\n\t( b\nc", 2, 2, stillOpen)
	wantError(t, "( a)(", 1, 5, stillOpen)
	wantError(t, "( a) ( ( b", 1, 6, stillOpen)
	wantError(t, "( \\ a", 1, 1, stillOpen)
	wantError(t, ") (", 1, 3, stillOpen) // the bracket ahead of it closes nothing
	wantError(t, "(a) ( b", 1, 5, stillOpen)
	wantError(t, "(\x00", 1, 1, stillOpen) // the byte stands in it
}

func TestWordsLikeComments(t *testing.T) { // P9.1: only the one byte is the word
	for _, s := range []string{"(a", "a(", "(a)", "()", "((", "))", ")", "a)", ")a", ")(", `\a`, `a\`, `\\`, `a\b`, `\(`, `(\`, `\)`, `1(`, `(1`, "(1)", `\1`, "a(b)c"} {
		wantTokens(t, s, word(s, 1, 1))
		wantTokens(t, s+" b", word(s, 1, 1), word("b", 1, len(s)+2))
		wantTokens(t, "b\n"+s+"\nc", word("b", 1, 1), word(s, 2, 1), word("c", 3, 1))
	}
	wantTokens(t, "'('", number("'('", 40, 1, 1))
	wantTokens(t, `'\'`, number(`'\'`, 92, 1, 1))
}

func TestWidths(t *testing.T) { // P9.2: words of 31 and of more bytes, whatever they are
	for _, fill := range []string{"w", "(", `\`, ")", "~", "!", "'"} {
		wantTokens(t, strings.Repeat(fill, 31), word(strings.Repeat(fill, 31), 1, 1))
		wantError(t, strings.Repeat(fill, 32), 1, 1, tooWide)
		wantError(t, "a\n "+strings.Repeat(fill, 33), 2, 2, tooWide)
		wantError(t, strings.Repeat(fill, 65536), 1, 1, tooWide)
	}
	wantTokens(t, strings.Repeat("0", 31), number(strings.Repeat("0", 31), 0, 1, 1))
	wantTokens(t, "-"+strings.Repeat("0", 29)+"5", number("-"+strings.Repeat("0", 29)+"5", 65531, 1, 1))
	for _, s := range []string{
		strings.Repeat("0", 32),       // a cell's number, but too long
		strings.Repeat("0", 31) + "7", // the same
		"-" + strings.Repeat("0", 31),
		"$" + strings.Repeat("0", 31),
		"%" + strings.Repeat("0", 31),
		strings.Repeat("9", 32), // of no cell, and too long
		"-" + strings.Repeat("9", 31),
		"$" + strings.Repeat("f", 31),
		"%" + strings.Repeat("1", 31),
		strings.Repeat("9", 1000),
	} {
		wantError(t, s, 1, 1, tooWide)
		wantError(t, "a "+s+" b", 1, 3, tooWide)
	}
}

func TestNumerals(t *testing.T) { // P9.2: both signs, and all kinds that are numerals
	for s, x := range map[string]uint16{
		"0": 0, "7": 7, "0007": 7, "65535": 65535, "-0": 0, "-1": 65535, "-32768": 32768, "32768": 32768,
		"$0": 0, "$ff": 255, "$ffff": 65535, "$00beef": 48879, "%0": 0, "%101": 5, "%1111111111111111": 65535,
		"'a'": 97, "'''": 39, "'!'": 33, "'~'": 126, "'0'": 48, "')'": 41,
	} {
		wantTokens(t, s, number(s, x, 1, 1))
		wantTokens(t, "a\t"+s+"\nb", word("a", 1, 1), number(s, x, 1, 3), word("b", 2, 1))
	}
	for _, s := range []string{"1x", "-", "--1", "+1", "$", "%", "$FF", "$g", "%2", "-$1", "$-1", "''", "'ab'", "'", "1-", "0x1", "1.", "1,2"} {
		wantTokens(t, s, word(s, 1, 1))
	}
	for _, s := range []string{"65536", "70000", "-32769", "-65536", "$10000", "$fffff", "%10000000000000000", strings.Repeat("9", 31), "-" + strings.Repeat("9", 30), "$" + strings.Repeat("f", 30), "%" + strings.Repeat("1", 30), "00065536"} {
		wantError(t, s, 1, 1, noCell)
		wantError(t, "a\n\t"+s+" b", 2, 2, noCell)
	}
	for x := range 65536 {
		s := fmt.Sprint(x)
		got, _, e := token.Scan(s)
		if e != fine || len(got) != 1 || got[0] != number(s, uint16(x), 1, 1) {
			t.Fatalf("Scan(%q) = %v, %d", s, got, e)
		}
	}
}

func TestWhichOfTwoErrors(t *testing.T) { // P9.2: the first that is met
	wide := strings.Repeat("w", 32)
	wantError(t, "70000\x00", 1, 1, noCell) // a word that ends ahead of a bad byte is looked at first
	wantError(t, wide+"\x00", 1, 1, tooWide)
	wantError(t, "a\x00 70000", 1, 2, badByte)
	wantError(t, "\x0070000", 1, 1, badByte)
	wantError(t, "\x00"+wide, 1, 1, badByte)
	wantError(t, "\x00 ( a", 1, 1, badByte)
	wantError(t, "( a) \x00 ( a", 1, 6, badByte)
	wantError(t, "( \x00 70000 "+wide, 1, 1, stillOpen) // all of it is the comment's
	wantError(t, "70000 ( a", 1, 1, noCell)
	wantError(t, wide+" ( a", 1, 1, tooWide)
	wantError(t, "70000 "+wide, 1, 1, noCell)
	wantError(t, wide+" 70000", 1, 1, tooWide)
	wantError(t, "a 70000\n"+wide, 1, 3, noCell)
	wantError(t, strings.Repeat("7", 32)+"\xff", 1, 1, tooWide)
	wantError(t, "\\ \x00\n\x01", 2, 1, badByte)
}

func TestLengths(t *testing.T) { // P9.2: ErrLong ahead of all others, at {1, 1}
	for _, fill := range []string{" ", "\n", "a", "\x00", "(", "\xff", `\`, "7 ", "( a)"} {
		long := strings.Repeat(fill, maxSource/len(fill)+1)
		holdToModel(t, long[:maxSource])
		holdToModel(t, long[:maxSource-1])
		wantError(t, long[:maxSource]+" ", 1, 1, tooLong)
		wantError(t, long[:maxSource]+"\n", 1, 1, tooLong)
		wantError(t, "\n"+long[:maxSource], 1, 1, tooLong)
		wantError(t, strings.Repeat(long, 3), 1, 1, tooLong)
	}
	wantTokens(t, strings.Repeat(" ", 65536))
	wantTokens(t, strings.Repeat("\n", 65535)+"a", word("a", 65536, 1))
	wantTokens(t, strings.Repeat(" ", 65535)+"a", word("a", 1, 65536))
	wantTokens(t, `\`+strings.Repeat(" ", 65535))
	wantTokens(t, "( "+strings.Repeat("w", 65533)+")")
	wantError(t, "( "+strings.Repeat("w", 65534), 1, 1, stillOpen)
	got, _, e := token.Scan(strings.Repeat("a ", 32768))
	if e != fine || len(got) != 32768 || got[32767] != word("a", 1, 65535) {
		t.Errorf("32768 words: %d of them, %d", len(got), e)
	}
}

func TestPlaces(t *testing.T) { // P9.3: only a byte 10 begins a line, within comments too; each byte counts one column
	wantTokens(t, "\ta\rb\n\r\tc\r\nd", word("a", 1, 2), word("b", 1, 4), word("c", 2, 3), word("d", 3, 1))
	wantTokens(t, "\n\n\na", word("a", 4, 1))
	wantTokens(t, "\r\r\ra", word("a", 1, 4))
	wantTokens(t, "( \xc3\xa9\xff)a", word("a", 1, 7))
	wantTokens(t, "( \xc3\xa9\n\xff)a \\ \xe2\x82\xac\nb", word("a", 2, 3), word("b", 3, 1))
	wantTokens(t, "( \n\n\n)a ( \n)b", word("a", 4, 2), word("b", 5, 2))
	wantTokens(t, "\\ \t\r\na", word("a", 2, 1))
	wantError(t, "\t\r \x00", 1, 4, badByte)
	wantError(t, "\n\r\t\x00", 2, 3, badByte)
	wantError(t, "( \n\xc3\xa9)\x00", 2, 4, badByte)
	wantError(t, "\\ ( \xff\n\t70000", 2, 2, noCell)
	wantError(t, "( \n\n)"+strings.Repeat("w", 32), 3, 2, tooWide)
	wantError(t, "a\r\n\r\n ( ", 3, 2, stillOpen)
}

func TestEnd(t *testing.T) { // P9.3
	for src, want := range map[string]api.Pos{
		"": {Line: 1, Col: 1}, "a": {Line: 1, Col: 2}, "\n": {Line: 2, Col: 1}, "a\n": {Line: 2, Col: 1}, "a\nb": {Line: 2, Col: 2}, "\n\n": {Line: 3, Col: 1},
		"a\r": {Line: 1, Col: 3}, "\t\t": {Line: 1, Col: 3}, "( a\n": {Line: 2, Col: 1}, "\x00\xff\xc3\xa9": {Line: 1, Col: 5}, "70000": {Line: 1, Col: 6}, "\n\n x": {Line: 3, Col: 3},
	} {
		if got := token.End(src); got != want {
			t.Errorf("End(%q) = %v, want %v", src, got, want)
		}
	}
	for _, many := range []int{65536, 65537, 200000, 1 << 20} {
		for _, fill := range []string{"a", "\n", "\x80", "ab\n", "a\nb"} {
			holdEnd(t, strings.Repeat(fill, many/len(fill)+1)[:many])
		}
	}
	if got := token.End(strings.Repeat("a", 100000)); got != (api.Pos{Line: 1, Col: 100001}) {
		t.Errorf("End of 100000 bytes = %v", got)
	}
	if got := token.End(strings.Repeat("\n", 100000)); got != (api.Pos{Line: 100001, Col: 1}) {
		t.Errorf("End of 100000 lines = %v", got)
	}
}

// telling has a byte of each kind that a scan tells apart, and some beside them.
const telling = "\x00\t\n\v\r !\x7f\xc3()\\a17$'-"

func TestEveryShortText(t *testing.T) { // P9.1 to P9.3, P9.5
	var grow func(s string, most int)
	grow = func(s string, most int) {
		holdToModel(t, s)
		if most == 0 || t.Failed() {
			return
		}
		for i := range len(telling) {
			grow(s+telling[i:i+1], most-1)
		}
	}
	grow("", 4)
}

// anyText is some pieces one behind the other, few of which are wrong.
func anyText(r *rand.Rand) string {
	pieces := []string{" ", " ", "\n", "\t", "\r", " ( ", "(", ")", ")", " \\ ", "\\", "a", "dup ", "7 ", "-1 ", "65535 ", "$ff", "%1", "'x' ", " : ", " ;\n", "\n\n"}
	wrong := []string{"\x00", "\xc3\xa9", " 70000 ", strings.Repeat("w", 31), " -32769", "\x7f", "\x1f"}
	var b strings.Builder
	for range r.Intn(40) {
		if r.Intn(60) == 0 {
			b.WriteString(wrong[r.Intn(len(wrong))])
		} else {
			b.WriteString(pieces[r.Intn(len(pieces))])
		}
	}
	return b.String()
}

func TestAnyTexts(t *testing.T) { // P9.1 to P9.3, P9.5
	r := rand.New(rand.NewSource(9))
	met := map[api.Errno]int{}
	lines, brackets := 0, 0
	for range 30000 {
		m := holdToModel(t, anyText(r))
		met[m.wrong]++
		lines += m.lines
		brackets += m.brackets
		if t.Failed() {
			return
		}
	}
	for _, e := range []api.Errno{fine, noCell, badByte, stillOpen} {
		if met[e] < 500 {
			t.Errorf("the texts meet %d only %d times", e, met[e])
		}
	}
	if lines < 5000 || brackets < 5000 {
		t.Errorf("the texts have only %d and %d comments", lines, brackets)
	}
}

// anyWords is words that a text may have.
func anyWords(r *rand.Rand) []string {
	some := []string{"a", "dup", ":", ";", "7", "-1", "$ff", "'('", `'\'`, "(a", "a(", `\b`, `b\`, ")", "((", `\\`, "2dup", strings.Repeat("w", 31), "0", "%101"}
	words := make([]string, r.Intn(12))
	for i := range words {
		words[i] = some[r.Intn(len(some))]
	}
	return words
}

func TestWordsPutTogether(t *testing.T) { // P9.4
	r := rand.New(rand.NewSource(94))
	for range 5000 {
		words := anyWords(r)
		wantWords(t, strings.Join(words, " "), words...)
		src := sources.Dressed(r, words...)
		wantWords(t, src, words...)
		first, _, _ := token.Scan(src)
		again, _, _ := token.Scan(strings.Join(texts(first), " "))
		for i := range again {
			if again[i].Kind != first[i].Kind || again[i].Value != first[i].Value {
				t.Errorf("%v is scanned again to %v", first[i], again[i])
			}
		}
		if t.Failed() {
			return
		}
	}
	for range 3000 {
		src := anyText(r)
		if tokens, _, e := token.Scan(src); e == fine {
			wantWords(t, strings.Join(texts(tokens), " "), texts(tokens)...)
			wantWords(t, strings.Join(texts(tokens), "\n"), texts(tokens)...)
		}
	}
}

func TestAnswersAreApart(t *testing.T) { // R3, R5
	src := ": a 1 + ; ( b )\n\\ c\nd"
	want := []api.Token{word(":", 1, 1), word("a", 1, 3), number("1", 1, 1, 5), word("+", 1, 7), word(";", 1, 9), word("d", 3, 1)}
	first, _, _ := token.Scan(src)
	second, _, _ := token.Scan(src)
	whole := first[:cap(first)]
	for i := range whole {
		whole[i] = api.Token{Kind: 9, Text: "x", Value: 9, Pos: api.Pos{Line: 9, Col: 9}}
	}
	if !slices.Equal(second, want) {
		t.Errorf("written over the first answer, the second is %v", second)
	}
	wantTokens(t, src, want...)
	wantError(t, "a\x00", 1, 2, badByte)
	wantTokens(t, src, want...)
}
