package shot_test

import (
	"bytes"
	"fmt"
	"math/rand"
	"slices"
	"testing"

	"wisp/shot"
)

// wantPack holds Pack against the second reckoning, and Unpack of it against the screen.
func wantPack(t *testing.T, what string, screen []byte) []byte {
	t.Helper()
	b, e := shot.Pack(screen)
	if e != fine || !bytes.Equal(b, packOf(screen)) {
		t.Fatalf("P20.2: Pack of %s: %v, %d, want %v, %d", what, b, e, packOf(screen), fine)
	}
	if len(b) < 24 || len(b) > 6144 {
		t.Fatalf("P20.8: Pack of %s has %d bytes", what, len(b))
	}
	if back, e := shot.Unpack(b); e != fine || !bytes.Equal(back, screen) {
		t.Fatalf("P20.6: Unpack of Pack of %s: %d bytes, %d", what, len(back), e)
	}
	return b
}

// wantUnpack holds Unpack against the second reckoning, and Pack of what it answers against the bytes.
func wantUnpack(t *testing.T, what string, b []byte) bool {
	t.Helper()
	want, err := unpackOf(b)
	s, e := shot.Unpack(b)
	if e != err || !bytes.Equal(s, want) {
		t.Fatalf("P20.2: Unpack of %s: %d bytes, %d, want %d bytes, %d: %v", what, len(s), e, len(want), err, b)
	}
	if e != fine {
		return false
	}
	if again, e := shot.Pack(s); e != fine || !bytes.Equal(again, b) {
		t.Fatalf("P20.6: Pack of Unpack of %s: %v, %d, want %v", what, again, e, b)
	}
	return true
}

// wantNoRuns asks that Unpack refuses bytes.
func wantNoRuns(t *testing.T, what string, b []byte) {
	t.Helper()
	if s, e := shot.Unpack(b); e != badInput || len(s) != 0 {
		t.Errorf("P20.2: Unpack of %s: %d bytes, %d, want none, %d", what, len(s), e, badInput)
	}
}

func TestPackOfOtherLengths(t *testing.T) { // P20.2
	for _, n := range lengths {
		b, e := shot.Pack(make([]byte, n))
		if n == pixels {
			if e != fine || len(b) != 24 {
				t.Errorf("P20.2: Pack of %d bytes: %v, %d", n, b, e)
			}
		} else if e != badInput || len(b) != 0 {
			t.Errorf("P20.2: Pack of %d bytes: %v, %d, want none, %d", n, b, e, badInput)
		}
	}
	if b, e := shot.Pack(nil); e != badInput || len(b) != 0 {
		t.Errorf("P20.2: Pack of nil: %v, %d", b, e)
	}
}

func TestPackOfAllAlike(t *testing.T) { // P20.2, P20.8: 12 runs of 256
	for p := range 256 {
		b := wantPack(t, fmt.Sprintf("all pixels %d", p), filled(byte(p)))
		if !bytes.Equal(b, bytes.Repeat([]byte{255, byte(p)}, 12)) {
			t.Errorf("P20.2: Pack of all pixels %d: %v", p, b)
		}
	}
}

func TestPackOfNoTwoAlike(t *testing.T) { // P20.2, P20.8: 3072 runs of one
	for what, s := range map[string][]byte{"two in turn": filled(0, 255), "two others": filled(8, 7), "three in turn": filled(1, 0, 2)} {
		b := wantPack(t, what, s)
		if len(b) != 6144 {
			t.Errorf("P20.8: Pack of %s has %d bytes, want 6144", what, len(b))
		}
		for at, pixel := range s {
			if !bytes.Equal(b[2*at:2*at+2], []byte{0, pixel}) {
				t.Fatalf("P20.2: %s: the run %d is %v, want [0 %d]", what, at, b[2*at:2*at+2], pixel)
			}
		}
	}
}

func TestPackOfRunsOfEverySize(t *testing.T) { // P20.2: 255, 256, 257 and 512 among them
	for many := 1; many <= pixels; many++ {
		b := wantPack(t, fmt.Sprintf("a run of %d", many), stretched(t, many))
		var want []byte
		for left := many; left > 0; left -= 256 {
			want = append(want, byte(min(left, 256)-1), 1)
		}
		for left := pixels - many; left > 0; left -= 256 {
			want = append(want, byte(min(left, 256)-1), 0)
		}
		if !bytes.Equal(b, want) {
			t.Fatalf("P20.2: a run of %d: %v, want %v", many, b, want)
		}
	}
	for what, c := range map[string]struct {
		sizes []int
		want  []byte
	}{
		"254": {[]int{254, 254}, []byte{253, 1, 253, 2}},
		"255": {[]int{255, 255}, []byte{254, 1, 254, 2}},
		"256": {[]int{256, 256}, []byte{255, 1, 255, 2}},
		"257": {[]int{257, 257}, []byte{255, 1, 0, 1, 255, 2, 0, 2}},
		"511": {[]int{511, 1}, []byte{255, 1, 254, 1, 0, 2}},
		"512": {[]int{512, 512}, []byte{255, 1, 255, 1, 255, 2, 255, 2}},
		"513": {[]int{1, 513, 1}, []byte{0, 1, 255, 2, 255, 2, 0, 2, 0, 1}},
	} {
		if b := wantPack(t, "runs of "+what, stretched(t, c.sizes...)); !bytes.HasPrefix(b, c.want) {
			t.Errorf("P20.2: runs of %s: %v, want %v", what, b[:len(c.want)], c.want)
		}
	}
}

func TestPackOverTheRowsEnds(t *testing.T) { // P20.2
	for y := range high - 1 {
		s := zeros()
		copy(s[wide*y+62:], []byte{9, 9, 9, 9})
		b := wantPack(t, fmt.Sprintf("four alike from row %d on", y), s)
		if !bytes.Contains(b, []byte{3, 9}) || bytes.Contains(b, []byte{1, 9}) {
			t.Errorf("P20.2: four alike over the end of row %d: %v", y, b)
		}
	}
	s := zeros()
	for y := range high {
		block(s, 0, y, 63, y, byte(y))
	}
	if b := wantPack(t, "each row a run", s); len(b) != 2*48 {
		t.Errorf("P20.2: each row a run: %v", b)
	}
	block(s, 0, 0, 63, 1, 5)
	if b := wantPack(t, "the first two rows alike", s); !bytes.HasPrefix(b, []byte{127, 5, 63, 2}) {
		t.Errorf("P20.2: the first two rows alike: %v", b)
	}
}

func TestUnpackOfWhatIsNear(t *testing.T) { // P20.2
	whole := bytes.Repeat([]byte{255, 0}, 12)
	ahead := func(b ...byte) []byte { return append(b, whole[2:]...) }
	behind := func(b ...byte) []byte { return append(slices.Clone(whole[:22]), b...) }
	for what, b := range map[string][]byte{
		"no bytes":                              {},
		"nil":                                   nil,
		"one byte":                              {0},
		"one pixel":                             {0, 0},
		"three bytes":                           {255, 0, 255},
		"a run less":                            whole[:22],
		"a run more":                            append(slices.Clone(whole), 255, 0),
		"a pixel more":                          append(slices.Clone(whole), 0, 0),
		"another pixel more":                    append(slices.Clone(whole), 0, 1),
		"a pixel less at the end":               behind(254, 0),
		"a pixel less at the beginning":         ahead(254, 0),
		"an odd byte behind":                    append(slices.Clone(whole), 0),
		"an odd byte 255 behind":                append(slices.Clone(whole), 255),
		"an odd byte ahead":                     append([]byte{0}, whole...),
		"the last byte lacks":                   whole[:23],
		"the first byte lacks":                  whole[1:],
		"the first run in two, 255 and 1":       ahead(254, 0, 0, 0),
		"the first run in two, 1 and 255":       ahead(0, 0, 254, 0),
		"the first run in two halves":           ahead(127, 0, 127, 0),
		"the last run in two, 255 and 1":        behind(254, 0, 0, 0),
		"the last run in two, 1 and 255":        behind(0, 0, 254, 0),
		"a run that takes of the one behind":    slices.Concat([]byte{255, 0, 0, 0}, whole[4:], []byte{254, 0}),
		"all runs of one, all alike":            bytes.Repeat([]byte{0, 7}, pixels),
		"all runs of two, all alike":            bytes.Repeat([]byte{1, 7}, pixels/2),
		"all runs of 64, all alike":             bytes.Repeat([]byte{63, 7}, 48),
		"runs of one, a pixel too many":         append(packOf(filled(1, 2)), 0, 1),
		"runs of one, a pixel too few":          packOf(filled(1, 2))[:6142],
		"a screen's pixels themselves":          zeros(),
		"a screen's pixels, 255 of each":        filled(255),
		"bytes 0":                               make([]byte, 24),
		"bytes 255, one run too few":            bytes.Repeat([]byte{255}, 22),
		"bytes 255, one run too many":           bytes.Repeat([]byte{255}, 26),
		"very many runs":                        bytes.Repeat([]byte{255, 1, 255, 2}, 1<<20),
		"very many runs of one":                 bytes.Repeat([]byte{0, 1, 0, 2}, 1<<20),
		"a screen's runs, and those of another": slices.Concat(whole, packOf(filled(3))),
	} {
		wantNoRuns(t, what, b)
	}
	for what, b := range map[string][]byte{
		"bytes 255":                     bytes.Repeat([]byte{255}, 24),
		"a run of one and one of 255":   ahead(0, 1, 254, 2),
		"a run of 255 and one of 1":     ahead(254, 1, 0, 2),
		"the last run is of one":        slices.Concat(whole[:22], []byte{254, 0, 0, 4}),
		"the first run is of one":       slices.Concat([]byte{0, 4, 254, 5}, whole[2:]),
		"runs of 256 of several pixels": {255, 1, 255, 2, 255, 1, 255, 1, 255, 0, 255, 0, 255, 9, 255, 8, 255, 7, 255, 7, 255, 7, 255, 1},
	} {
		if !wantUnpack(t, what, b) {
			t.Errorf("P20.2: Unpack of %s: it is refused", what)
		}
	}
}

func TestUnpackOfRunsThatCouldBeLonger(t *testing.T) { // P20.2: each run of a screen, cut at each place
	screens := map[string][]byte{"zeros": zeros(), "one pixel": with(1, 0, 171), "runs": stretched(t, 255, 256, 257, 512, 3, 2, 1)}
	for what, s := range screens {
		b := packOf(s)
		for at := 0; at < len(b); at += 2 {
			for first := range int(b[at]) {
				cut := slices.Concat(b[:at], []byte{byte(first), b[at+1], b[at] - 1 - byte(first), b[at+1]}, b[at+2:])
				wantNoRuns(t, fmt.Sprintf("%s, the run at %d cut behind %d", what, at, first+1), cut)
			}
		}
	}
}

// changed is some runs with another byte, with a run more or less, or two of them exchanged.
func changed(r *rand.Rand, b []byte) []byte {
	b = slices.Clone(b)
	at := 2 * r.Intn(len(b)/2)
	switch r.Intn(7) {
	case 0:
		b[at] += byte(r.Intn(3) - 1)
	case 1:
		b[at+1] = byte(r.Intn(3))
	case 2:
		return slices.Delete(b, at, at+2)
	case 3:
		return slices.Insert(b, at, byte(r.Intn(256)), byte(r.Intn(3)))
	case 4:
		return slices.Delete(b, at, at+1)
	case 5:
		other := 2 * r.Intn(len(b)/2)
		b[at], b[other] = b[other], b[at]
	case 6:
		more := byte(r.Intn(4))
		other := 2 * r.Intn(len(b)/2)
		b[at], b[other] = b[at]+more, b[other]-more
	}
	return b
}

func TestUnpackOfAnyBytes(t *testing.T) { // P20.2, P20.6
	r := rand.New(rand.NewSource(202))
	taken, refused := 0, 0
	for range 20000 {
		b := packOf(drawn(r))
		for range 1 + r.Intn(2) {
			if len(b) > 1 {
				b = changed(r, b)
			}
		}
		if wantUnpack(t, "changed runs", b) {
			taken++
		} else {
			refused++
		}
		loose := make([]byte, r.Intn(80))
		r.Read(loose)
		wantUnpack(t, "any bytes", loose)
	}
	if taken < 1000 || refused < 1000 {
		t.Errorf("the test's own bytes: %d are taken, %d refused", taken, refused)
	}
}
