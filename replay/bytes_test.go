package replay_test

import (
	"bytes"
	"fmt"
	"math"
	"math/rand"
	"slices"
	"testing"

	"wisp/api"
	"wisp/replay"
)

// wantThereAndBack holds Encode against the second reckoning, and Decode of it against the recording.
func wantThereAndBack(t *testing.T, what string, r replay.Recording) []byte {
	t.Helper()
	b, e := replay.Encode(r)
	if want := bytesOf(r); e != fine || !bytes.Equal(b, want) {
		t.Fatalf("21.3: Encode of %s: %d, %d bytes: % x, want % x", what, e, len(b), b[:min(len(b), 80)], want[:min(len(want), 80)])
	}
	if back, e := replay.Decode(b); e != fine || !same(back, r) {
		t.Fatalf("21.6: Decode of Encode of %s: %d, budget %d, %d bytes, %d frames, %d digests", what, e, back.Budget, len(back.Cart), len(back.Pads), len(back.Digests))
	}
	return b
}

// wantNone asks that Decode refuses bytes.
func wantNone(t *testing.T, what string, b []byte) {
	t.Helper()
	if r, e := replay.Decode(b); e != badRecord || !empty(r) {
		t.Errorf("21.3: Decode of %s: budget %d, %d frames, %d, want none, %d", what, r.Budget, len(r.Pads), e, badRecord)
	}
}

// wantDecode holds Decode against the second reckoning, and Encode of what it answers against the bytes.
func wantDecode(t *testing.T, what string, b []byte) api.Errno {
	t.Helper()
	want, err := decodeOf(b)
	r, e := replay.Decode(b)
	if e != err || e == fine && !same(r, want) || e != fine && !empty(r) {
		t.Fatalf("21.3: Decode of %s: %d, budget %d, %d frames, want %d, budget %d, %d frames: % x", what, e, r.Budget, len(r.Pads), err, want.Budget, len(want.Pads), b[:min(len(b), 100)])
	}
	if e == fine {
		if again, f := replay.Encode(r); f != fine || !bytes.Equal(again, b) {
			t.Fatalf("21.6: Encode of Decode of %s: %d", what, f)
		}
	}
	return e
}

// fill is so many gamepads, one behind the other as often as is said: 1, 2, 1, 2 and so on.
func fill(runs ...int) []uint8 {
	var pads []uint8
	for i, many := range runs {
		pads = append(pads, bytes.Repeat([]byte{byte(1 + i%2)}, many)...)
	}
	return pads
}

// of is a recording of these gamepads, with digests 0x04030201, 0x05040302 and so on.
func of(budget int, image []byte, pads ...uint8) replay.Recording {
	r := replay.Recording{Cart: image, Budget: budget, Pads: pads}
	for i := range pads {
		r.Digests = append(r.Digests, 0x04030201+uint32(i)*0x01010101)
	}
	return r
}

func TestEncodeByHand(t *testing.T) { // 21.3: byte by byte, each number as chapter 3 lays it
	for _, x := range []struct {
		r    replay.Recording
		laid string // all but the sum
	}{
		{of(4, nil), "WREC\x01\x04\x00\x00"},
		{of(127, nil), "WREC\x01\x7f\x00\x00"},
		{of(128, nil), "WREC\x01\x80\x01\x00\x00"},
		{of(16383, nil), "WREC\x01\xff\x7f\x00\x00"},
		{of(16384, nil), "WREC\x01\x80\x80\x01\x00\x00"},
		{of(100, []byte{9, 8, 7}), "WREC\x01\x64\x03\x09\x08\x07\x00"},
		{of(100, bytes.Repeat([]byte{5}, 127)), "WREC\x01\x64\x7f" + string(bytes.Repeat([]byte{5}, 127)) + "\x00"},
		{of(100, bytes.Repeat([]byte{5}, 128)), "WREC\x01\x64\x80\x01" + string(bytes.Repeat([]byte{5}, 128)) + "\x00"},
		{of(100, nil, 5), "WREC\x01\x64\x00\x01\x01\x05\x01\x02\x03\x04"},
		{of(100, nil, 0), "WREC\x01\x64\x00\x01\x01\x00\x01\x02\x03\x04"},
		{of(100, nil, 255, 255), "WREC\x01\x64\x00\x01\x02\xff\x01\x02\x03\x04\x02\x03\x04\x05"},
		{of(100, nil, 1, 1, 0), "WREC\x01\x64\x00\x02\x02\x01\x01\x00\x01\x02\x03\x04\x02\x03\x04\x05\x03\x04\x05\x06"},
		{of(300, []byte{1}, 7, 8, 7), "WREC\x01\xac\x02\x01\x01\x03\x01\x07\x01\x08\x01\x07\x01\x02\x03\x04\x02\x03\x04\x05\x03\x04\x05\x06"},
		{replay.Recording{Budget: 5, Pads: []uint8{6}, Digests: []uint32{0xfffefdfc}}, "WREC\x01\x05\x00\x01\x01\x06\xfc\xfd\xfe\xff"},
	} {
		want := sealed([]byte(x.laid))
		if b, e := replay.Encode(x.r); e != fine || !bytes.Equal(b, want) {
			t.Errorf("21.3: Encode of %+v: % x, %d, want % x", x.r, b, e, want)
		}
		wantThereAndBack(t, "it", x.r)
	}
}

func TestEncodeOfRuns(t *testing.T) { // 21.3: of 1, 127, 128 and more frames
	for _, x := range []struct {
		runs []int
		laid []byte
	}{
		{[]int{1}, []byte{1, 1, 1}},
		{[]int{127}, []byte{1, 127, 1}},
		{[]int{128}, []byte{1, 0x80, 1, 1}},
		{[]int{129}, []byte{1, 0x81, 1, 1}},
		{[]int{300}, []byte{1, 0xac, 2, 1}},
		{[]int{1023}, []byte{1, 0xff, 7, 1}},
		{[]int{1024}, []byte{1, 0x80, 8, 1}},
		{[]int{1, 127, 128}, []byte{3, 1, 1, 127, 2, 0x80, 1, 1}},
		{[]int{128, 127, 1, 768}, []byte{4, 0x80, 1, 1, 127, 2, 1, 1, 0x80, 6, 2}},
	} {
		r := of(100, nil, fill(x.runs...)...)
		want := sealed(head(100, nil), x.laid, words(r.Digests...))
		if b := wantThereAndBack(t, fmt.Sprintf("runs of %v", x.runs), r); !bytes.Equal(b, want) {
			t.Errorf("21.3: Encode of runs of %v: % x, want % x", x.runs, b[:20], want[:20])
		}
	}
	for _, many := range []int{126, 127, 128, 129, 1023, 1024} { // so many runs of one frame
		ones := slices.Repeat([]int{1}, many)
		b := wantThereAndBack(t, "runs of one frame", of(100, nil, fill(ones...)...))
		if at := len(head(100, nil)); !bytes.HasPrefix(b[at:], append(number(many), 1, 1, 1, 2)) {
			t.Errorf("21.3: Encode of %d runs: % x", many, b[:20])
		}
	}
	for pad := range 256 { // a run ends with any other gamepad
		wantThereAndBack(t, "two gamepads", of(100, nil, uint8(pad), uint8(pad), uint8(pad+1), uint8(pad+128), 0))
	}
}

// sample is a recording of several runs, one of which has a number of two bytes.
func sample() replay.Recording {
	return of(300, []byte{9, 8, 7, 200}, fill(2, 1, 130, 3)...)
}

func TestDecodeOfBytesThatAreCut(t *testing.T) { // 21.3: at every place, with the old sum's bytes or with a right one
	for _, r := range []replay.Recording{of(100, nil), of(100, []byte{1, 2}, 5), sample()} {
		b := wantThereAndBack(t, "it", r)
		for at := range b {
			wantNone(t, fmt.Sprintf("the first %d bytes", at), b[:at])
			wantNone(t, fmt.Sprintf("the bytes from %d on", at+1), b[at+1:])
			wantNone(t, fmt.Sprintf("bytes without the one at %d", at), slices.Concat(b[:at], b[at+1:]))
			if at < len(b)-4 {
				wantNone(t, fmt.Sprintf("the first %d bytes and their sum", at), sealed(b[:at]))
				wantDecode(t, fmt.Sprintf("bytes without the one at %d, and their sum", at), sealed(b[:at], b[at+1:len(b)-4]))
			}
		}
	}
	for _, b := range [][]byte{nil, {}, sealed(), sealed([]byte("WREC\x01"))} {
		wantNone(t, "next to nothing", b)
	}
}

func TestDecodeOfBytesMore(t *testing.T) { // 21.3: behind the sum, ahead of it, anywhere
	for _, r := range []replay.Recording{of(100, nil), of(100, []byte{1, 2}, 5), sample()} {
		b := wantThereAndBack(t, "it", r)
		body := b[:len(b)-4]
		for x := range 256 {
			one := []byte{byte(x)}
			wantNone(t, "a byte behind the sum", slices.Concat(b, one))
			wantNone(t, "a byte ahead of the sum", sealed(body, one))
			wantNone(t, "a byte ahead of all", slices.Concat(one, b))
			wantNone(t, "a byte ahead of all, and the sum", sealed(one, body))
		}
		wantNone(t, "two sums", sealed(b))
		wantNone(t, "a digest more", sealed(body, words(7)))
		wantNone(t, "it twice", slices.Concat(b, b))
		for at := range body {
			for _, x := range []byte{0, 1, 5, 127, 128, 255} {
				wantNone(t, fmt.Sprintf("a byte more at %d", at), slices.Concat(b[:at], []byte{x}, b[at:]))
				wantDecode(t, fmt.Sprintf("a byte more at %d, and the sum", at), sealed(b[:at], []byte{x}, body[at:]))
			}
		}
	}
}

func TestDecodeOfTurnedBytes(t *testing.T) { // 21.3: each byte to each other one; with a right sum it may be another recording
	taken, refused := 0, 0
	for _, r := range []replay.Recording{of(100, nil), of(100, []byte{1, 2}, 5), of(128, nil, 5, 5, 6), of(300, []byte{9, 8, 7, 200}, fill(2, 1, 9)...)} {
		b := wantThereAndBack(t, "it", r)
		for at := range b {
			was := b[at]
			for x := range 256 {
				if b[at] = byte(x); b[at] == was {
					continue
				}
				wantNone(t, fmt.Sprintf("%d at %d", x, at), b)
				if at >= len(b)-4 {
					continue
				}
				if wantDecode(t, fmt.Sprintf("%d at %d, and the sum", x, at), sealed(b[:len(b)-4])) == fine {
					taken++
				} else {
					refused++
				}
			}
			b[at] = was
		}
	}
	if taken < 1000 || refused < 1000 {
		t.Errorf("%d of the turned bytes are taken, %d refused", taken, refused)
	}
}

func TestDecodeOfOtherBeginnings(t *testing.T) { // 21.3: letters and version, each with a right sum
	rest := []byte{100, 0, 0}
	for _, begin := range []string{"", "WREC", "WREC\x00", "WREC\x02", "WREC\x81\x00", "wREC\x01", "WrEC\x01", "WReC\x01", "WREc\x01", "WISP\x01", "CERW\x01", "\x01WREC", "WREC\x01\x01", "\x00\x00\x00\x00\x00", " WREC\x01"} {
		wantNone(t, fmt.Sprintf("the beginning %q", begin), sealed([]byte(begin), rest))
	}
	if e := wantDecode(t, "the right beginning", sealed([]byte("WREC\x01"), rest)); e != fine {
		t.Errorf("21.3: Decode: %d", e)
	}
}

func TestDecodeOfOtherForms(t *testing.T) { // 21.3: a number in another form than its one, at each of the four kinds of places
	one := words(7)
	for what, laid := range map[string]string{
		"the budget in two bytes":       "\xe4\x00\x00\x01\x01\x05",
		"the budget in five bytes":      "\xe4\x80\x80\x80\x00\x00\x01\x01\x05",
		"the budget in six bytes":       "\xe4\x80\x80\x80\x80\x00\x00\x01\x01\x05",
		"the budget above 32 bits":      "\xe4\x80\x80\x80\x10\x00\x01\x01\x05",
		"the cartridge's number in two": "\x64\x80\x00\x01\x01\x05",
		"the cartridge's, above 32":     "\x64\x80\x80\x80\x80\x10\x01\x01\x05",
		"the number of runs in two":     "\x64\x00\x81\x00\x01\x05",
		"the number of runs above 32":   "\x64\x00\x81\x80\x80\x80\x10\x01\x05",
		"a run's number in two":         "\x64\x00\x01\x81\x00\x05",
		"a run's number in three":       "\x64\x00\x01\x81\x80\x00\x05",
		"a run's number above 32":       "\x64\x00\x01\x81\x80\x80\x80\x10\x05",
	} {
		wantNone(t, what, sealed([]byte("WREC\x01"+laid), one))
	}
	if e := wantDecode(t, "their one form", sealed([]byte("WREC\x01\x64\x00\x01\x01\x05"), one)); e != fine {
		t.Errorf("21.3: Decode: %d", e)
	}
	wantNone(t, "no runs, in two bytes", sealed([]byte("WREC\x01\x64\x00\x80\x00")))
	wantNone(t, "an open number at the end", sealed([]byte("WREC\x01\x64\x00\x80")))
}

// run is so many frames of a gamepad, as it is laid.
func run(frames int, pad byte) []byte { return append(number(frames), pad) }

// runs is runs with their number ahead of them.
func runs(list ...[]byte) []byte { return append(number(len(list)), slices.Concat(list...)...) }

func TestDecodeOfRunsThatMayNotBe(t *testing.T) { // 21.3: of 0 frames, and those that could be fewer
	for what, x := range map[string]struct {
		laid   []byte
		frames int
	}{
		"one run of 0":               {runs(run(0, 5)), 0},
		"two runs of 0":              {runs(run(0, 5), run(0, 6)), 0},
		"a run of 0 ahead":           {runs(run(0, 5), run(2, 6)), 2},
		"a run of 0 ahead, alike":    {runs(run(0, 6), run(2, 6)), 2},
		"a run of 0 behind":          {runs(run(2, 6), run(0, 5)), 2},
		"a run of 0 between":         {runs(run(1, 6), run(0, 5), run(1, 7)), 2},
		"a run of 0 between alike":   {runs(run(1, 6), run(0, 5), run(1, 6)), 2},
		"two alike":                  {runs(run(1, 5), run(1, 5)), 2},
		"two alike of 0":             {runs(run(1, 0), run(1, 0)), 2},
		"three alike":                {runs(run(1, 5), run(1, 5), run(1, 5)), 3},
		"two alike at the end":       {runs(run(1, 5), run(1, 6), run(3, 6)), 5},
		"two alike in the midst":     {runs(run(1, 5), run(1, 6), run(1, 6), run(1, 5)), 4},
		"127 and one":                {runs(run(127, 5), run(1, 5)), 128},
		"many runs of 0":             {runs(slices.Repeat([][]byte{run(0, 5), run(0, 6)}, 3000)...), 0},
		"1024 alike, each of one":    {runs(slices.Repeat([][]byte{run(1, 5)}, 1024)...), 1024},
		"1024 frames and a run of 0": {runs(run(1024, 5), run(0, 6)), 1024},
	} {
		wantNone(t, what, sealed(head(100, []byte{1, 2}), x.laid, make([]byte, 4*x.frames)))
	}
	if e := wantDecode(t, "runs that may be", sealed(head(100, []byte{1, 2}), runs(run(1, 5), run(1, 6), run(1, 5)), make([]byte, 12))); e != fine {
		t.Errorf("21.3: Decode: %d", e)
	}
}

func TestDecodeOfTooManyFrames(t *testing.T) { // 21.3: at most 1024, in one run or in many
	var ones [][]byte
	for i := range 1026 {
		ones = append(ones, run(1, byte(i)))
	}
	for what, x := range map[string]struct {
		laid   []byte
		frames int
	}{
		"one run of 1024":  {runs(run(1024, 5)), 1024},
		"one run of 1025":  {runs(run(1025, 5)), 1025},
		"1024 and one":     {runs(run(1024, 5), run(1, 6)), 1025},
		"one and 1023":     {runs(run(1, 5), run(1023, 6)), 1024},
		"one and 1024":     {runs(run(1, 5), run(1024, 6)), 1025},
		"1024 runs":        {runs(ones[:1024]...), 1024},
		"1025 runs":        {runs(ones[:1025]...), 1025},
		"1026 runs":        {runs(ones...), 1026},
		"one run of 65536": {runs(run(65536, 5)), 65536},
	} {
		b := sealed(head(100, nil), x.laid, make([]byte, 4*x.frames))
		if e := wantDecode(t, what, b); (e == fine) != (x.frames <= mostPads) {
			t.Errorf("21.3: Decode of %s: %d", what, e)
		}
		if x.frames > mostPads { // with as many digests as may be, or none
			wantNone(t, what, sealed(head(100, nil), x.laid, make([]byte, 4*mostPads)))
			wantNone(t, what, sealed(head(100, nil), x.laid))
		}
	}
}

func TestDecodeOfNumbersThatLie(t *testing.T) { // 21.3: said lengths, of the cartridge, the runs and a run, that are not there: none takes memory or time
	lies := []int{1, 2, 3, 4, 5, 6, 7, 8, 9, 10, 11, 12, 13, 20, 127, 128, 1024, 1025, 65535, 65536, mostCart, mostCart + 1, math.MaxInt32, math.MaxInt32 + 1, math.MaxUint32 - 1, math.MaxUint32}
	begin := slices.Concat([]byte("WREC\x01"), number(100))
	for _, n := range lies {
		for _, behind := range [][]byte{nil, {0}, {1, 1, 5, 1, 2, 3, 4}, {0, 0, 0, 0, 0, 0, 0, 0, 0, 0}, make([]byte, 3000)} {
			wantDecode(t, fmt.Sprintf("a cartridge of %d", n), sealed(begin, number(n), behind))
			wantDecode(t, fmt.Sprintf("%d runs", n), sealed(begin, number(0), number(n), behind))
			wantDecode(t, fmt.Sprintf("a run of %d", n), sealed(begin, number(0), number(1), number(n), behind))
			wantDecode(t, fmt.Sprintf("a second run of %d", n), sealed(begin, number(0), number(2), run(1, 5), number(n), behind))
			wantDecode(t, fmt.Sprintf("a budget of %d", n), sealed([]byte("WREC\x01"), number(n), behind))
		}
		wantNone(t, fmt.Sprintf("%d runs of 0 frames", n), sealed(begin, number(0), number(n), make([]byte, 2*min(n, 2000))))
	}
}

func TestDecodeOfBudgets(t *testing.T) { // 21.3: 4 to 16384
	for _, n := range []int{0, 1, 2, 3, 4, 5, 127, 128, 16383, 16384, 16385, 16388, 65536, 65540, math.MaxInt32, math.MaxUint32} {
		for _, x := range []replay.Recording{of(n, nil), of(n, []byte{1}, 1, 2, 2)} {
			if e := wantDecode(t, fmt.Sprintf("a budget of %d", n), bytesOf(x)); (e == fine) != mayBeBudget(n) {
				t.Errorf("21.3: Decode of a budget of %d: %d", n, e)
			}
		}
	}
}

func TestDecodeOfManyBytes(t *testing.T) { // 21.3: a cartridge of at most 524288, and all else that is most
	r := rand.New(rand.NewSource(2131))
	for _, n := range []int{0, 1, 127, 128, 16383, 16384, mostCart - 1, mostCart, mostCart + 1, mostCart + 2, 1 << 21} {
		image := make([]byte, n)
		r.Read(image)
		x := of(16384, image, anyPads(r, mostPads)...)
		if e := wantDecode(t, fmt.Sprintf("a cartridge of %d", n), bytesOf(x)); (e == fine) != (n <= mostCart) {
			t.Errorf("21.3: Decode of a cartridge of %d bytes: %d", n, e)
		}
	}
}

func TestEncodeOfWhatMayNotBe(t *testing.T) { // 21.3
	for what, r := range map[string]replay.Recording{
		"nothing":             {},
		"a budget of 3":       {Budget: 3},
		"a budget of 16385":   {Budget: 16385},
		"a budget below 0":    {Budget: -100},
		"no digest":           {Budget: 100, Pads: []uint8{1}},
		"no gamepad":          {Budget: 100, Digests: []uint32{1}},
		"1025 frames":         of(100, nil, make([]uint8, 1025)...),
		"1025 gamepads alone": {Budget: 100, Pads: make([]uint8, 1025)},
		"1025 digests alone":  {Budget: 100, Digests: make([]uint32, 1025)},
		"524289 bytes":        of(100, make([]byte, mostCart+1)),
	} {
		wantNoRecording(t, what, r)
	}
}
