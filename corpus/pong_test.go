package corpus_test

import (
	"math/rand"
	"strconv"
	"testing"

	"wisp/api"
	"wisp/console"
)

// Where pong's variables lie, and what its pictures have: chapter 26's source, by DOC.md's 'What a program comes to'.
const (
	ballX, ballY, batTop = 0x8000, 0x8002, 0x8008

	width, height         = 64, 48
	batColumn, batSize    = 2, 8
	batColour, ballColour = 200, 255
	lowest                = height - batSize
)

// wantBall wants the ball's pixel on the screen, once, and there where the ball is.
func wantBall(t *testing.T, frame int, box *console.Console, out api.Out) {
	t.Helper()
	var found []int
	for at, pixel := range out.Screen {
		if pixel == ballColour {
			found = append(found, at)
		}
	}
	space := box.Machine().Memory()
	want := int(space.Cell(ballY))*width + int(space.Cell(ballX))
	if len(found) != 1 || found[0] != want {
		t.Fatalf("26.5: frame %d: the ball's pixels are %v, want %d", frame, found, want)
	}
}

// wantBat wants the left bat at a row, by the memory and by the picture; where the ball comes by, one of its pixels may be away.
func wantBat(t *testing.T, what string, frame, top int, box *console.Console, out api.Out) {
	t.Helper()
	if got := int(box.Machine().Memory().Cell(batTop)); got != top {
		t.Fatalf("26.5: %s: frame %d: the left bat's top is %d, want %d", what, frame, got, top)
	}
	in := 0
	for row := range height {
		if out.Screen[row*width+batColumn] != batColour {
			continue
		}
		if row < top || row >= top+batSize {
			t.Fatalf("26.5: %s: frame %d: the left bat has a pixel in row %d, its top is %d", what, frame, row, top)
		}
		in++
	}
	if in < batSize-1 {
		t.Fatalf("26.5: %s: frame %d: the left bat has %d pixels", what, frame, in)
	}
}

// beginning is a life of pong up to where a button is held.
type beginning struct {
	what string
	pads []uint8
}

func same(pad uint8, many int) []uint8 {
	pads := make([]uint8, many)
	for i := range pads {
		pads[i] = pad
	}
	return pads
}

func beginnings() []beginning {
	all := []beginning{
		{"from the beginning", nil},
		{"from the top", same(up, 45)},
		{"from the bottom", same(down, 45)},
		{"from just below the top", same(up, 19)},
		{"from just above the bottom", same(down, 19)},
		{"behind a long time", same(0, 500)},
	}
	r := rand.New(rand.NewSource(26))
	for k := range 40 {
		pads := make([]uint8, 1+r.Intn(200))
		pad := uint8(0)
		for i := range pads {
			if r.Intn(6) == 0 {
				pad = uint8(r.Intn(256))
			}
			pads[i] = pad
		}
		all = append(all, beginning{"from drawn gamepads " + strconv.Itoa(k), pads})
	}
	return all
}

// from is a console behind a beginning, and its bat's top then.
func from(t *testing.T, b beginning) (*console.Console, int) {
	t.Helper()
	box := playing(t, "pong")
	box.Play(b.pads...)
	if len(b.pads) == 0 {
		return box, 20
	}
	return box, int(box.Machine().Memory().Cell(batTop))
}

// 26.5
func TestTheBatStays(t *testing.T) {
	for _, b := range beginnings() {
		box, top := from(t, b)
		play(t, b.what, box, 120, held(0), func(frame int, _ uint8, out api.Out) {
			wantBat(t, b.what, frame, top, box, out)
			wantBall(t, frame, box, out)
		})
	}
}

// 26.5
func TestTheBatGoesToTheTopAndToTheBottom(t *testing.T) {
	seen := map[int]bool{}
	for _, b := range beginnings() {
		for _, way := range []struct {
			pad       uint8
			by, until int
		}{{up, -1, 0}, {down, 1, lowest}} {
			box, top := from(t, b)
			seen[top] = true
			play(t, b.what, box, 60, held(way.pad), func(frame int, _ uint8, out api.Out) {
				if top != way.until {
					top += way.by
				}
				if frame >= 39 && top != way.until {
					t.Fatalf("the test's own bat stands at %d behind 40 frames", top)
				}
				wantBat(t, b.what, frame, top, box, out)
				wantBall(t, frame, box, out)
			})
		}
	}
	if len(seen) < 15 || !seen[0] || !seen[lowest] {
		t.Errorf("the bat has begun at %d rows alone", len(seen))
	}
}

// 26.5: with a button held, whatever other buttons are pressed beside it, but for the opposite one.
func TestTheBatGoesWhateverElseIsPressed(t *testing.T) {
	for _, way := range []struct {
		pad   uint8
		until int
	}{{up, 0}, {down, lowest}} {
		others := drawn(int64(way.pad), 3)
		pads := func(frame int, box *console.Console) uint8 { return others(frame, box)&^(up|down) | way.pad }
		box := playing(t, "pong")
		play(t, "with others", box, 100, pads, func(frame int, _ uint8, out api.Out) {
			if frame >= 39 {
				wantBat(t, "with others", frame, way.until, box, out)
			}
		})
	}
}

// 26.5: behind every frame, and not the first 600 alone.
func TestTheBallStaysForLong(t *testing.T) {
	box := playing(t, "pong")
	play(t, "for long", box, 6000, drawn(5, 30), func(frame int, _ uint8, out api.Out) { wantBall(t, frame, box, out) })
}
