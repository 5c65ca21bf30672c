package shot_test

import (
	"bytes"
	"fmt"
	"hash/crc32"
	"math"
	"math/rand"
	"slices"
	"strings"
	"testing"

	"wisp/api"
	"wisp/console"
	"wisp/pack"
	"wisp/shot"
)

// wantDigest holds a digest against the sum of bytes.
func wantDigest(t *testing.T, what string, o api.Out, laid []byte) uint32 {
	t.Helper()
	got := shot.Digest(o)
	if got != pack.Sum(laid) || got != crc32.ChecksumIEEE(laid) {
		t.Fatalf("P20.5: the digest of %s is %08x, want %08x: %.200v", what, got, pack.Sum(laid), o)
	}
	return got
}

func TestTones(t *testing.T) { // P20.4
	for want, ts := range map[string][]api.Tone{
		"":                        nil,
		"0 0 0\n":                 {{}},
		"0 440 9\n":               {{Pitch: 440, Volume: 9}},
		"-1 1 1\n":                {{Cycle: -1, Pitch: 1, Volume: 1}},
		"16383 65535 255\n":       {{Cycle: 16383, Pitch: 65535, Volume: 255}},
		"2 1 0\n1 2 0\n1 2 0\n":   {{Cycle: 2, Pitch: 1}, {Cycle: 1, Pitch: 2}, {Cycle: 1, Pitch: 2}},
		"-3 0 255\n0 0 0\n":       {{Cycle: -3, Volume: 255}, {}},
		"10 100 10\n-10 1000 1\n": {{Cycle: 10, Pitch: 100, Volume: 10}, {Cycle: -10, Pitch: 1000, Volume: 1}},
		"9223372036854775807 32768 128\n-9223372036854775808 32767 127\n": {{Cycle: math.MaxInt, Pitch: 32768, Volume: 128}, {Cycle: math.MinInt, Pitch: 32767, Volume: 127}},
	} {
		if got := shot.Tones(ts); got != want {
			t.Errorf("P20.4: Tones(%v) = %q, want %q", ts, got, want)
		}
	}
	if got := shot.Tones([]api.Tone{}); got != "" {
		t.Errorf("P20.4: Tones of none: %q", got)
	}
}

func TestManyTones(t *testing.T) { // P20.4
	r := rand.New(rand.NewSource(205))
	for many := range 200 {
		ts := anyTones(r, many*many%1000)
		var want strings.Builder
		for _, x := range ts {
			fmt.Fprintf(&want, "%d %d %d\n", x.Cycle, x.Pitch, x.Volume)
		}
		if got := shot.Tones(ts); got != want.String() {
			t.Fatalf("P20.4: Tones(%v) = %q", ts, got)
		}
	}
	for pitch := range 65536 {
		ts := []api.Tone{{Cycle: pitch - 32768, Pitch: uint16(pitch), Volume: uint8(pitch)}}
		if got, want := shot.Tones(ts), fmt.Sprintln(pitch-32768, pitch, pitch%256); got != want {
			t.Fatalf("P20.4: Tones(%v) = %q, want %q", ts, got, want)
		}
	}
}

func TestDigestByteByByte(t *testing.T) { // P20.5: of bytes laid by hand
	nothing := make([]byte, 28)
	for i, c := range []struct {
		o    api.Out
		laid []byte
	}{
		{api.Out{}, nothing},
		{api.Out{Status: 1}, append([]byte{1}, nothing[1:]...)},
		{api.Out{Fault: 7}, []byte{0, 0, 0, 0, 7, 0, 0, 0, 0, 0, 0, 0, 0, 0, 0, 0, 0, 0, 0, 0, 0, 0, 0, 0, 0, 0, 0, 0}},
		{api.Out{Steps: 0x01020304}, []byte{0, 0, 0, 0, 0, 0, 0, 0, 4, 3, 2, 1, 0, 0, 0, 0, 0, 0, 0, 0, 0, 0, 0, 0, 0, 0, 0, 0}},
		{api.Out{Spent: 300}, []byte{0, 0, 0, 0, 0, 0, 0, 0, 0, 0, 0, 0, 44, 1, 0, 0, 0, 0, 0, 0, 0, 0, 0, 0, 0, 0, 0, 0}},
		{api.Out{Idle: 16384}, []byte{0, 0, 0, 0, 0, 0, 0, 0, 0, 0, 0, 0, 0, 0, 0, 0, 0, 64, 0, 0, 0, 0, 0, 0, 0, 0, 0, 0}},
		{api.Out{Screen: []byte{9}}, []byte{0, 0, 0, 0, 0, 0, 0, 0, 0, 0, 0, 0, 0, 0, 0, 0, 0, 0, 0, 0, 1, 0, 0, 0, 9, 0, 0, 0, 0}},
		{api.Out{Tones: []api.Tone{{Cycle: 0x04030201, Pitch: 0x0605, Volume: 7}}}, []byte{0, 0, 0, 0, 0, 0, 0, 0, 0, 0, 0, 0, 0, 0, 0, 0, 0, 0, 0, 0, 0, 0, 0, 0, 1, 0, 0, 0, 1, 2, 3, 4, 5, 6, 7}},
		{api.Out{Status: 3, Fault: 2, Steps: 5, Spent: 6, Idle: 94, Screen: []byte{1, 2, 3}, Tones: []api.Tone{{Cycle: 1, Pitch: 440, Volume: 9}, {Cycle: 12, Pitch: 65535}}},
			[]byte{3, 0, 0, 0, 2, 0, 0, 0, 5, 0, 0, 0, 6, 0, 0, 0, 94, 0, 0, 0, 3, 0, 0, 0, 1, 2, 3, 2, 0, 0, 0, 1, 0, 0, 0, 184, 1, 9, 12, 0, 0, 0, 255, 255, 0}},
		{api.Out{Status: -1, Fault: -2, Steps: -3, Spent: math.MinInt32, Idle: -1 << 32, Tones: []api.Tone{{Cycle: -1}}},
			[]byte{255, 255, 255, 255, 254, 255, 255, 255, 253, 255, 255, 255, 0, 0, 0, 128, 0, 0, 0, 0, 0, 0, 0, 0, 1, 0, 0, 0, 255, 255, 255, 255, 0, 0, 0}},
		{api.Out{Status: 1<<32 + 1, Fault: 1<<40 + 2, Steps: math.MaxInt, Spent: math.MinInt, Idle: 1<<33 + 1<<31, Tones: []api.Tone{{Cycle: 5<<32 + 6}}},
			[]byte{1, 0, 0, 0, 2, 0, 0, 0, 255, 255, 255, 255, 0, 0, 0, 0, 0, 0, 0, 128, 0, 0, 0, 0, 1, 0, 0, 0, 6, 0, 0, 0, 0, 0, 0}},
	} {
		if !bytes.Equal(laidOf(c.o), c.laid) {
			t.Errorf("the test's own bytes of %d: %v, want %v", i, laidOf(c.o), c.laid)
		}
		wantDigest(t, fmt.Sprint("out ", i), c.o, c.laid)
	}
}

func TestDigestOfAnyOut(t *testing.T) { // P20.5
	r := rand.New(rand.NewSource(206))
	for range 3000 {
		o := anyOut(r)
		wantDigest(t, "any out", o, laidOf(o))
	}
}

func TestDigestOfScreensOfAnyLength(t *testing.T) { // P20.5
	r := rand.New(rand.NewSource(207))
	for _, n := range slices.Concat(lengths, []int{3, 255, 256, 257, 65535, 65537, 1 << 20}) {
		o := api.Out{Status: 1, Screen: make([]byte, n), Tones: anyTones(r, 2)}
		wantDigest(t, fmt.Sprintf("%d zeros", n), o, laidOf(o))
		r.Read(o.Screen)
		wantDigest(t, fmt.Sprintf("%d pixels", n), o, laidOf(o))
	}
	for _, many := range []int{0, 1, 2, 255, 256, 257, 16384, 70000} {
		o := api.Out{Status: 1, Screen: zeros(), Tones: anyTones(r, many)}
		wantDigest(t, fmt.Sprintf("%d tones", many), o, laidOf(o))
	}
}

func TestDigestOfOneOtherNumber(t *testing.T) { // P20.5: each field counts, by its lowest 32 bits alone
	r := rand.New(rand.NewSource(208))
	fields := map[string]func(o *api.Out, more int){
		"Status": func(o *api.Out, more int) { o.Status += api.Status(more) },
		"Fault":  func(o *api.Out, more int) { o.Fault += api.Fault(more) },
		"Steps":  func(o *api.Out, more int) { o.Steps += more },
		"Spent":  func(o *api.Out, more int) { o.Spent += more },
		"Idle":   func(o *api.Out, more int) { o.Idle += more },
		"Cycle":  func(o *api.Out, more int) { o.Tones[0].Cycle += more },
	}
	for range 100 {
		o := anyOut(r)
		o.Tones = anyTones(r, 1+r.Intn(4))
		was := shot.Digest(o)
		for what, add := range fields {
			for _, more := range []int{1, -1, 256, 65536, 1 << 24, 1 << 31, 1 + r.Intn(math.MaxUint32)} {
				if add(&o, more); shot.Digest(o) == was {
					t.Fatalf("P20.5: the sum stays with %d more in %s", more, what)
				}
				if add(&o, -more); shot.Digest(o) != was {
					t.Fatalf("P20.9: two sums of one out")
				}
			}
			for _, more := range []int{1 << 32, -1 << 32, 1 << 33, 5 << 40} {
				if add(&o, more); shot.Digest(o) != was {
					t.Fatalf("P20.5: the sum is another with %d more in %s", more, what)
				}
				add(&o, -more)
			}
		}
		last := &o.Tones[len(o.Tones)-1]
		if last.Pitch ^= 0x100; shot.Digest(o) == was {
			t.Fatal("P20.5: the sum stays with another pitch")
		}
		last.Pitch ^= 0x100
		if last.Volume++; shot.Digest(o) == was {
			t.Fatal("P20.5: the sum stays with another volume")
		}
	}
}

func TestDigestOfOneOtherPixel(t *testing.T) { // P20.9: another sum
	r := rand.New(rand.NewSource(209))
	for range 3 {
		o := anyOut(r)
		o.Screen = drawn(r)
		was := shot.Digest(o)
		for at := range o.Screen {
			more := byte(1 + r.Intn(255))
			if o.Screen[at] += more; shot.Digest(o) == was {
				t.Fatalf("P20.9: the sum stays with %d more at %d", more, at)
			}
			o.Screen[at] -= more
		}
		at := r.Intn(pixels)
		seen := map[uint32]bool{}
		for range 256 {
			o.Screen[at]++
			seen[shot.Digest(o)] = true
		}
		if len(seen) != 256 || shot.Digest(o) != was {
			t.Errorf("P20.9: 256 pixels at %d have %d sums", at, len(seen))
		}
	}
}

func TestDigestOfTheSame(t *testing.T) { // P20.9: two outs that are the same in all, R4: no list and an empty one too
	r := rand.New(rand.NewSource(210))
	for range 500 {
		o := anyOut(r)
		same := o
		same.Screen = append(make([]byte, 0, len(o.Screen)+9), o.Screen...)
		same.Tones = append(make([]api.Tone, 0, len(o.Tones)+9), o.Tones...)
		if shot.Digest(o) != shot.Digest(same) || shot.Digest(o) != shot.Digest(o) {
			t.Fatalf("P20.9: two sums of one out: %.200v", o)
		}
	}
	for _, screen := range [][]byte{nil, {}, make([]byte, 0, 5)} {
		for _, tones := range [][]api.Tone{nil, {}, make([]api.Tone, 0, 5)} {
			if shot.Digest(api.Out{Screen: screen, Tones: tones}) != shot.Digest(api.Out{}) {
				t.Error("R4: another sum of empty lists")
			}
		}
	}
}

func TestDigestsOfFrames(t *testing.T) { // P20.5, P20.9: of outs that a console answers
	src := ": main begin pad dup 3 * 10 12 plot pad if pad 5 + 9 tone then yield again ;"
	play := func() []api.Out {
		c, e := console.New(200)
		if e != fine {
			t.Fatal(e)
		}
		if at, e := c.Source(src); e != fine {
			t.Fatal(at, e)
		}
		return c.Play(0, 1, 2, 2, 0, 20, 200)
	}
	outs, again := play(), play()
	seen := map[uint32]bool{}
	for i, o := range outs {
		d := wantDigest(t, fmt.Sprint("frame ", i), o, laidOf(o))
		if d != shot.Digest(again[i]) {
			t.Errorf("P20.9: frame %d has two sums", i)
		}
		seen[d] = true
		wantArt(t, fmt.Sprint("frame ", i), o.Screen)
		wantPack(t, fmt.Sprint("frame ", i), o.Screen)
		if i > 0 {
			wantDiff(t, fmt.Sprint("frame ", i), outs[i-1].Screen, o.Screen)
		}
	}
	if len(seen) < 5 {
		t.Errorf("P20.5: %d frames have %d sums", len(outs), len(seen))
	}
	if !slices.ContainsFunc(outs, func(o api.Out) bool { return shot.Tones(o.Tones) != "" }) {
		t.Error("the test's own frames have no tones")
	}
}
