package shot_test

import (
	"bytes"
	"fmt"
	"math/rand"
	"strings"
	"testing"

	"wisp/shot"
)

// lengths are those of a screen, and of what is none.
var lengths = []int{0, 1, 2, 48, 64, 3008, 3071, 3072, 3073, 3136, 6144, 6192, 65536}

// wantArt holds Art against the second reckoning, and Read of it against the screen.
func wantArt(t *testing.T, what string, screen []byte) string {
	t.Helper()
	art, e := shot.Art(screen)
	if e != fine || art != artOf(screen) {
		t.Fatalf("P20.1: Art of %s: %d, %d bytes, want %d, %d bytes: %.200q", what, e, len(art), fine, len(artOf(screen)), art)
	}
	if back, e := shot.Read(art); e != fine || !bytes.Equal(back, screen) {
		t.Fatalf("P20.6: Read of Art of %s: %d bytes, %d", what, len(back), e)
	}
	return art
}

// wantNoArt asks that Read refuses a text.
func wantNoArt(t *testing.T, what, art string) {
	t.Helper()
	if s, e := shot.Read(art); e != badInput || len(s) != 0 {
		t.Errorf("P20.1: Read of %s: %d bytes, %d, want none, %d", what, len(s), e, badInput)
	}
}

func TestArtOfOtherLengths(t *testing.T) { // P20.1
	for _, n := range lengths {
		art, e := shot.Art(make([]byte, n))
		if n == pixels {
			if e != fine || len(art) != 48*129 {
				t.Errorf("P20.1: Art of %d bytes: %d bytes, %d", n, len(art), e)
			}
		} else if e != badInput || art != "" {
			t.Errorf("P20.1: Art of %d bytes: %q, %d, want none, %d", n, art, e, badInput)
		}
	}
	if art, e := shot.Art(nil); e != badInput || art != "" {
		t.Errorf("P20.1: Art of nil: %q, %d", art, e)
	}
}

func TestArtOfEveryPixel(t *testing.T) { // P20.1: 0 to 255, alone and beside one another
	for p := range 256 {
		want := fmt.Sprintf("%x%x", p/16, p%16)
		if p == 0 {
			want = ".."
		}
		art := wantArt(t, fmt.Sprintf("all pixels %d", p), filled(byte(p)))
		if art != strings.Repeat(strings.Repeat(want, 64)+"\n", 48) {
			t.Errorf("P20.1: a pixel %d is told as %q, want %q", p, art[:2], want)
		}
		wantArt(t, fmt.Sprintf("%d and zeros", p), filled(byte(p), 0))
		wantArt(t, fmt.Sprintf("%d and 255", p), filled(255, byte(p)))
	}
	all := make([]byte, 256)
	for p := range all {
		all[p] = byte(p)
	}
	wantArt(t, "all pixels in their order", filled(all...))
}

func TestArtOfEveryPlace(t *testing.T) { // P20.1: row by row, the top one first
	for y := range high {
		for x := range wide {
			art := wantArt(t, fmt.Sprintf("%d %d", x, y), with(x, y, 0xc5))
			if lines := strings.Split(art, "\n"); len(lines) != 49 || lines[48] != "" || lines[y][2*x:2*x+2] != "c5" || strings.Count(art, "c5") != 1 {
				t.Fatalf("P20.1: the pixel %d %d stands elsewhere: %q", x, y, lines[y])
			}
		}
	}
}

func TestReadOfEveryTwoCharacters(t *testing.T) { // P20.1: whatever two bytes in the place of a pixel: those of one of 256, or none
	rest := wantArt(t, "zeros", zeros())[2:]
	digits := "0123456789abcdef"
	taken := 0
	for a := range 256 {
		for b := range 256 {
			two := string([]byte{byte(a), byte(b)})
			s, e := shot.Read(two + rest)
			high, low := strings.IndexByte(digits, byte(a)), strings.IndexByte(digits, byte(b))
			pixel, is := 16*high+low, high >= 0 && low >= 0 && high+low > 0
			if two == ".." {
				pixel, is = 0, true
			}
			switch {
			case !is && (e != badInput || len(s) != 0):
				t.Fatalf("P20.1: Read with %q in the place of a pixel: %d bytes, %d, want none, %d", two, len(s), e, badInput)
			case is && (e != fine || !bytes.Equal(s, with(0, 0, byte(pixel)))):
				t.Fatalf("P20.1: Read with %q in the place of a pixel: %d bytes, %d, want the pixel %d", two, len(s), e, pixel)
			case is:
				taken++
			}
		}
	}
	if taken != 256 {
		t.Errorf("P20.1: Read takes %d pairs of characters, want 256", taken)
	}
}

func TestReadOfWhatIsNear(t *testing.T) { // P20.1
	dots := artOf(zeros())
	lines := strings.SplitAfter(dots, "\n")[:48]
	inside := artOf(filled(0x0a, 0, 0xb0, 0x9f))
	joined := func(ls ...string) string { return strings.Join(ls, "") }
	for what, art := range map[string]string{
		"no text":                       "",
		"one byte":                      ".",
		"a byte 10":                     "\n",
		"48 bytes 10":                   strings.Repeat("\n", 48),
		"no bytes 10":                   strings.ReplaceAll(dots, "\n", ""),
		"points alone":                  strings.Repeat(".", len(dots)),
		"bytes 10 alone":                strings.Repeat("\n", len(dots)),
		"bytes 0 alone":                 strings.Repeat("\x00", len(dots)),
		"zeros as 00":                   strings.ReplaceAll(dots, "..", "00"),
		"one zero as 00":                strings.Replace(dots, "..", "00", 1),
		"the last zero as 00":           dots[:len(dots)-3] + "00\n",
		"a zero as .0":                  strings.Replace(dots, "..", ".0", 1),
		"a zero as 0.":                  strings.Replace(dots, "..", "0.", 1),
		"a digit behind a point":        strings.Replace(dots, "..", ".a", 1),
		"a digit ahead of a point":      strings.Replace(dots, "..", "a.", 1),
		"a capital letter":              strings.Replace(inside, "0a", "0A", 1),
		"a capital letter ahead":        strings.Replace(inside, "b0", "B0", 1),
		"two capital letters":           strings.Replace(dots, "..", "AB", 1),
		"capital letters":               strings.ToUpper(inside),
		"a blank":                       strings.Replace(dots, "..", " .", 1),
		"a letter that is no digit":     strings.Replace(dots, "..", "0g", 1),
		"a sign":                        strings.Replace(dots, "..", "+1", 1),
		"a first line less":             joined(lines[1:]...),
		"a last line less":              joined(lines[:47]...),
		"a first line more":             lines[0] + dots,
		"a last line more":              dots + lines[0],
		"an empty line ahead":           "\n" + dots,
		"an empty line between":         joined(lines[0], "\n", joined(lines[1:]...)),
		"an empty line behind":          dots + "\n",
		"an empty line for the last":    joined(lines[:47]...) + "\n",
		"the last byte 10 lacks":        dots[:len(dots)-1],
		"the first byte 10 lacks":       strings.Replace(dots, "\n", "", 1),
		"a point for the first byte 10": strings.Replace(dots, "\n", ".", 1),
		"a point for the last byte 10":  dots[:len(dots)-1] + ".",
		"a byte 13 for a byte 10":       strings.Replace(dots, "\n", "\r", 1),
		"bytes 13 ahead of bytes 10":    strings.ReplaceAll(dots, "\n", "\r\n"),
		"bytes 13 for all bytes 10":     strings.ReplaceAll(dots, "\n", "\r"),
		"a byte 0 for a byte 10":        strings.Replace(dots, "\n", "\x00", 1),
		"a byte 0 behind":               dots + "\x00",
		"a point ahead":                 "." + dots,
		"a pixel ahead":                 ".." + dots,
		"a pixel behind":                dots + "..",
		"the first point lacks":         dots[1:],
		"the first pixel lacks":         dots[2:],
		"a pixel less in a line":        joined(lines[0], lines[1][2:], joined(lines[2:]...)),
		"a pixel more in a line":        joined(lines[0], "..", joined(lines[1:]...)),
		"a pixel in the line ahead":     joined(".."+lines[0], lines[1][2:], joined(lines[2:]...)),
		"a pixel in the line behind":    joined(lines[0][2:], ".."+lines[1], joined(lines[2:]...)),
		"a point in the line behind":    joined(lines[0][1:], "."+lines[1], joined(lines[2:]...)),
		"a byte 10 in the line":         joined("\n", lines[0][:128], joined(lines[1:]...)),
		"64 lines of 48 pixels":         strings.Repeat(strings.Repeat("..", 48)+"\n", 64),
		"32 lines of 96 pixels":         strings.Repeat(strings.Repeat("..", 96)+"\n", 32),
		"twice the text":                dots + dots,
		"half the text":                 dots[:len(dots)/2],
		"points of two bytes":           strings.Replace(dots, "..", "\u00b7", 1),
		"wide digits":                   strings.Replace(inside, "0a", "\uff10\uff41", 1),
	} {
		wantNoArt(t, what, art)
	}
}

func TestReadOfOneOtherByte(t *testing.T) { // P20.1: at each place of a text, and of each byte: the text of another screen, or none
	r := rand.New(rand.NewSource(201))
	digit := func(x byte) bool { return strings.IndexByte("0123456789abcdef", x) >= 0 }
	wantRead := func(b []byte, at int) {
		t.Helper()
		is := b[at] == '\n'
		if column := at % 129; column < 128 {
			pair := string(b[at-column%2:][:2])
			is = pair == ".." || pair != "00" && digit(pair[0]) && digit(pair[1])
		}
		s, e := shot.Read(string(b))
		switch {
		case is && (e != fine || artOf(s) != string(b)):
			t.Fatalf("P20.1: Read with %q at %d: %d bytes, %d, want another screen", b[at], at, len(s), e)
		case !is && (e != badInput || len(s) != 0):
			t.Fatalf("P20.1: Read with %q at %d: %d bytes, %d, want none, %d", b[at], at, len(s), e, badInput)
		}
	}
	b := []byte(artOf(filled(0, 0x0a, 0xb0, 0x9f, 1)))
	for at := range b {
		was := b[at]
		for _, x := range []byte{'\n', '.', '0', 'f', byte(r.Intn(256))} {
			b[at] = x
			wantRead(b, at)
		}
		b[at] = was
	}
	for _, at := range []int{0, 1, 2, 3, 126, 127, 128, 129, 130, 257, 3000, 6188, 6189, 6190, 6191} {
		was := b[at]
		for x := range 256 {
			b[at] = byte(x)
			wantRead(b, at)
		}
		b[at] = was
	}
}

func TestReadOfABytePutInOrTakenOut(t *testing.T) { // P20.1: then the length is another one
	art := artOf(filled(0, 0xb7, 1))
	for at := range len(art) {
		wantNoArt(t, fmt.Sprintf("a text without its byte %d", at), art[:at]+art[at+1:])
		for _, x := range []string{"\n", ".", "0"} {
			wantNoArt(t, fmt.Sprintf("a text with %q ahead of its byte %d", x, at), art[:at]+x+art[at:])
		}
		wantNoArt(t, fmt.Sprintf("the first %d bytes of a text", at), art[:at])
	}
	wantNoArt(t, "a very long text", strings.Repeat(art, 5000))
}
