package shot_test

import (
	"bytes"
	"encoding/binary"
	"encoding/hex"
	"math"
	"math/rand"
	"slices"
	"strings"
	"testing"

	"wisp/api"
	"wisp/shot"
)

// Errors and sizes by the document's numbers, not by api's names: a slip in one of the two must show.
const (
	fine     = api.Errno(0)
	badInput = api.Errno(2)

	wide, high, pixels = 64, 48, 3072
)

// A second reckoning of the chapter's calls, by other means than the program's.

// artOf says what Art answers of a screen.
func artOf(screen []byte) string {
	var rows strings.Builder
	for row := range slices.Chunk(screen, wide) {
		for _, pixel := range row {
			if pixel == 0 {
				rows.WriteString("..")
			} else {
				rows.WriteString(hex.EncodeToString([]byte{pixel}))
			}
		}
		rows.WriteString("\n")
	}
	return rows.String()
}

// packOf says what Pack answers of a screen: each pixel makes the run ahead of it longer, or is the first of a new one.
func packOf(screen []byte) []byte {
	var b []byte
	for _, pixel := range screen {
		if last := len(b) - 2; last >= 0 && b[last+1] == pixel && b[last] < 255 {
			b[last]++
		} else {
			b = append(b, 0, pixel)
		}
	}
	return b
}

// unpackOf says which screen Unpack answers, by the rules that the chapter names: each run is as long as it can be, and there are 3072 pixels.
func unpackOf(b []byte) ([]byte, api.Errno) {
	if len(b)%2 != 0 {
		return nil, badInput
	}
	var screen []byte
	for at := 0; at < len(b); at += 2 {
		if at > 0 && b[at-1] == b[at+1] && b[at-2] != 255 {
			return nil, badInput
		}
		for range int(b[at]) + 1 {
			screen = append(screen, b[at+1])
		}
	}
	if len(screen) != pixels {
		return nil, badInput
	}
	return screen, fine
}

// diffOf says what Diff answers of two screens.
func diffOf(a, b []byte) []shot.Change {
	var cs []shot.Change
	for y := range high {
		for x := range wide {
			if before, behind := a[wide*y+x], b[wide*y+x]; before != behind {
				cs = append(cs, shot.Change{X: x, Y: y, Old: before, New: behind})
			}
		}
	}
	return cs
}

// applyOf says what Apply answers, with the screen kept in rows and columns.
func applyOf(screen []byte, cs []shot.Change) ([]byte, api.Errno) {
	var rows [high][wide]byte
	for y := range rows {
		copy(rows[y][:], screen[wide*y:])
	}
	for _, c := range cs {
		if c.X < 0 || c.X > 63 || c.Y < 0 || c.Y > 47 || rows[c.Y][c.X] != c.Old {
			return nil, badInput
		}
		rows[c.Y][c.X] = c.New
	}
	var behind []byte
	for _, row := range rows {
		behind = append(behind, row[:]...)
	}
	return behind, fine
}

// laidOf says which bytes a digest is the sum of.
func laidOf(o api.Out) []byte {
	var b []byte
	for _, n := range []int{int(o.Status), int(o.Fault), o.Steps, o.Spent, o.Idle, len(o.Screen)} {
		b = binary.LittleEndian.AppendUint32(b, uint32(n))
	}
	b = append(b, o.Screen...)
	b = binary.LittleEndian.AppendUint32(b, uint32(len(o.Tones)))
	for _, t := range o.Tones {
		b = binary.LittleEndian.AppendUint32(b, uint32(t.Cycle))
		b = binary.LittleEndian.AppendUint16(b, t.Pitch)
		b = append(b, t.Volume)
	}
	return b
}

// zeros is a screen of zeros.
func zeros() []byte { return make([]byte, pixels) }

// with is a screen of zeros, but for one pixel.
func with(x, y int, pixel byte) []byte {
	s := zeros()
	s[wide*y+x] = pixel
	return s
}

// filled is a screen that repeats these pixels.
func filled(ps ...byte) []byte {
	s := zeros()
	for at := range s {
		s[at] = ps[at%len(ps)]
	}
	return s
}

// stretched is a screen of these runs, one behind the other, its pixels 1, 2, 1, 2 and so on; behind them stand zeros.
func stretched(t *testing.T, sizes ...int) []byte {
	t.Helper()
	var s []byte
	for i, many := range sizes {
		s = append(s, bytes.Repeat([]byte{byte(1 + i%2)}, many)...)
	}
	if len(s) > pixels {
		t.Fatalf("the test's own runs have %d pixels", len(s))
	}
	return append(s, make([]byte, pixels-len(s))...)
}

// drawn is a screen of any sort: all alike, noise, few colours, runs of all sizes, a picture of blocks, one with little on it.
func drawn(r *rand.Rand) []byte {
	s := filled(byte(r.Intn(256) * r.Intn(2)))
	switch r.Intn(6) {
	case 0:
		r.Read(s)
	case 1:
		few := 1 + r.Intn(4)
		for at := range s {
			s[at] = byte(r.Intn(few))
		}
	case 2:
		sizes := []int{1, 2, 3, 63, 64, 65, 254, 255, 256, 257, 258, 511, 512, 513, 1 + r.Intn(700)}
		for at := 0; at < pixels; {
			end := min(pixels, at+sizes[r.Intn(len(sizes))])
			pixel := byte(r.Intn(3))
			for ; at < end; at++ {
				s[at] = pixel
			}
		}
	case 3:
		for range 1 + r.Intn(8) {
			block(s, r.Intn(wide), r.Intn(high), r.Intn(wide), r.Intn(high), byte(r.Intn(256)))
		}
	case 4:
		for range r.Intn(6) {
			s[r.Intn(pixels)] = byte(r.Intn(256))
		}
	}
	return s
}

// block paints the pixels between two corners.
func block(s []byte, left, top, right, bottom int, pixel byte) {
	for y := top; y <= bottom; y++ {
		for x := left; x <= right; x++ {
			s[wide*y+x] = pixel
		}
	}
}

// near is a screen that differs from another one in some pixels.
func near(r *rand.Rand, s []byte) []byte {
	s = slices.Clone(s)
	for range r.Intn(20) {
		s[r.Intn(pixels)] += byte(r.Intn(3))
	}
	return s
}

// odd are numbers at which an int, or its lowest bits, come to an end.
var odd = []int{0, 1, -1, 2, -3, 12, 127, 128, 255, 256, 300, 65535, 65536, math.MaxInt32, math.MinInt32, math.MaxUint32, 1 << 32, 1<<32 + 7, -1 << 32, 1 << 40, math.MaxInt, math.MinInt}

func anyInt(r *rand.Rand) int {
	if r.Intn(2) == 0 {
		return odd[r.Intn(len(odd))]
	}
	return r.Intn(20000)
}

func anyTones(r *rand.Rand, many int) []api.Tone {
	ts := make([]api.Tone, many)
	for i := range ts {
		ts[i] = api.Tone{Cycle: anyInt(r), Pitch: uint16(r.Intn(65536)), Volume: uint8(r.Intn(256))}
	}
	return ts
}

// anyOut is one of any numbers, a screen of any length, any tones.
func anyOut(r *rand.Rand) api.Out {
	o := api.Out{Status: api.Status(anyInt(r)), Fault: api.Fault(anyInt(r)), Steps: anyInt(r), Spent: anyInt(r), Idle: anyInt(r), Tones: anyTones(r, r.Intn(6)*r.Intn(3))}
	switch r.Intn(3) {
	case 0:
		o.Screen = drawn(r)
	case 1:
		o.Screen = make([]byte, r.Intn(300))
		r.Read(o.Screen)
	}
	return o
}
