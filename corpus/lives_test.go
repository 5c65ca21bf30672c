package corpus_test

import (
	"math/rand"
	"strconv"
	"testing"

	"wisp/api"
	"wisp/console"
	"wisp/vm"
)

// The gamepad's bits.
const (
	up, down, left, right, button = 1, 2, 4, 8, 16
	every                         = up | down | left | right | button
)

// manyFrames is how many frames 26.4 promises.
const manyFrames = 600

// player tells the gamepad of a frame from its number and from what can be seen ahead of it.
type player func(frame int, box *console.Console) uint8

func playing(t *testing.T, name string) *console.Console {
	t.Helper()
	box, e := console.New(budget)
	if e != fine {
		t.Fatal(e)
	}
	if e := box.Load(cartOf(t, name)); e != fine {
		t.Fatalf("26.4: %s: a console's Load says %d", name, e)
	}
	return box
}

func held(pad uint8) player { return func(int, *console.Console) uint8 { return pad } }

// drawn holds any gamepad for a drawn number of frames, up to most.
func drawn(seed int64, most int) player {
	r := rand.New(rand.NewSource(seed))
	pad, left := uint8(0), 0
	return func(int, *console.Console) uint8 {
		if left == 0 {
			pad, left = uint8(r.Intn(256)), 1+r.Intn(most)
		}
		left--
		return pad
	}
}

// drawnButton holds one button, or none, for a drawn number of frames, up to most.
func drawnButton(seed int64, most int) player {
	pads := drawn(seed, most)
	return func(frame int, box *console.Console) uint8 { return 1 << (pads(frame, box) % 6) & every }
}

// players are those of 26.4's 'whatever gamepads': they are made anew for each life.
func players() map[string]player {
	all := map[string]player{
		"all buttons":             held(every),
		"all bits":                held(255),
		"bits of no button":       held(255 &^ every),
		"one more each frame":     func(frame int, _ *console.Console) uint8 { return uint8(frame) },
		"a button in turn":        func(frame int, _ *console.Console) uint8 { return 1 << (frame % 5) },
		"all and none":            func(frame int, _ *console.Console) uint8 { return uint8(frame % 2 * every) },
		"up and down":             func(frame int, _ *console.Console) uint8 { return uint8(up + frame%2) },
		"left and right":          func(frame int, _ *console.Console) uint8 { return left << (frame % 2) },
		"each frame another":      drawn(1, 1),
		"each few frames another": drawn(2, 5),
		"each many frames":        drawn(3, 60),
		"each frame a button":     drawnButton(4, 1),
		"each few frames":         drawnButton(5, 20),
		"the snake's food":        hunter,
	}
	for _, pad := range []uint8{0, up, down, left, right, button} {
		all["held: "+strconv.Itoa(int(pad))] = held(pad)
	}
	return all
}

// hunter steers the snake to its food; to the other cartridges these are buttons like others.
func hunter(_ int, box *console.Console) uint8 {
	space := box.Machine().Memory()
	head, x, y := space.Cell(0x8100), space.Cell(0x8108), space.Cell(0x810a)
	switch slot := head & 63 * 2; {
	case space.Cell(0x8000+slot) < x:
		return right
	case space.Cell(0x8000+slot) > x:
		return left
	case space.Cell(0x8080+slot) < y:
		return down
	}
	return up
}

// untilYield tells how many steps the machine does in a frame that is not cut: the one with the yield among them.
func untilYield(t *testing.T, m *vm.Machine, pad uint8) int {
	t.Helper()
	m.Memory().Begin(pad)
	for n := 1; n <= budget; n++ {
		if m.Step() {
			return n
		}
	}
	return 0
}

// play plays frames of one life, holds each to 26.4, and hands it on.
func play(t *testing.T, what string, box *console.Console, many int, pads player, look func(frame int, pad uint8, out api.Out)) {
	t.Helper()
	for frame := range many {
		pad := pads(frame, box)
		steps := untilYield(t, box.Machine(), pad)
		out := box.Frame(pad)
		if out.Status != running || out.Fault != none {
			t.Fatalf("26.4: %s: frame %d: status %d, fault %d", what, frame, out.Status, out.Fault)
		}
		if out.Steps != steps || out.Spent+out.Idle != budget {
			t.Fatalf("26.4: %s: frame %d: %d steps, %d cycles spent, %d idle; its yield is step %d", what, frame, out.Steps, out.Spent, out.Idle, steps)
		}
		look(frame, pad, out)
	}
}

// 26.4, W6; 26.5: the ball; 26.6
func TestLives(t *testing.T) {
	for _, name := range inOrder() {
		for who, pads := range players() {
			t.Run(name+", "+who, func(t *testing.T) {
				t.Parallel()
				box := playing(t, name)
				play(t, who, box, manyFrames, pads, func(frame int, pad uint8, out api.Out) {
					switch name {
					case "pong":
						wantBall(t, frame, box, out)
					case "song":
						wantTone(t, frame, pad, out)
					}
				})
			})
		}
	}
}

// 26.4: the lives of TestLives reach what a snake can come to.
func TestTheSnakeGrowsAndBites(t *testing.T) {
	pitches := map[uint16]int{}
	box := playing(t, "snake")
	spiral := func(frame int, box *console.Console) uint8 {
		if frame < 450 {
			return hunter(frame, box)
		}
		return uint8(right << 1 >> (frame % 4))
	}
	play(t, "a snake that grows and then goes round", box, manyFrames, spiral, func(_ int, _ uint8, out api.Out) {
		for _, tone := range out.Tones {
			pitches[tone.Pitch]++
		}
	})
	if pitches[880] < 3 || pitches[180] == 0 {
		t.Errorf("it has eaten %d times and bitten itself %d times", pitches[880], pitches[180])
	}
}
