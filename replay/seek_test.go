package replay_test

import (
	"bytes"
	"math"
	"math/rand"
	"slices"
	"testing"

	"wisp/api"
	"wisp/console"
	"wisp/replay"
)

func sameOut(a, b api.Out) bool {
	return a.Status == b.Status && a.Fault == b.Fault && a.Steps == b.Steps && a.Spent == b.Spent && a.Idle == b.Idle && bytes.Equal(a.Screen, b.Screen) && slices.Equal(a.Tones, b.Tones)
}

// wantBehind asks that a console has a recording's budget and cartridge, and has played so many frames.
func wantBehind(t *testing.T, what string, c *console.Console, r replay.Recording, frames int) {
	t.Helper()
	if _, _, n := c.Status(); n != frames || c.Budget() != r.Budget || !bytes.Equal(c.Cart(), r.Cart) {
		t.Fatalf("21.4: %s: %d frames of the budget %d, want %d of %d; or another cartridge", what, n, c.Budget(), frames, r.Budget)
	}
}

// wantSeek asks that Seek answers a console that stands where a machine stands that has played so many frames, and that goes on so.
func wantSeek(t *testing.T, what string, r replay.Recording, frames int) {
	t.Helper()
	c, e := replay.Seek(r, frames)
	if e != fine || c == nil {
		t.Fatalf("21.4: %s: Seek of %d = %d", what, frames, e)
	}
	wantBehind(t, what, c, r, frames)
	outs := lives(t, r.Cart, r.Budget, r.Pads)
	for i := frames; i < len(r.Pads); i++ {
		if o := c.Frame(r.Pads[i]); !sameOut(o, outs[i]) {
			t.Fatalf("21.7: %s: Seek of %d, then frame %d is another one", what, frames, i)
		}
	}
	wantBehind(t, what, c, r, len(r.Pads))
	c.Reset()
	if got := c.Play(r.Pads...); !slices.EqualFunc(got, outs, sameOut) {
		t.Fatalf("21.4: %s: Seek of %d, then Reset: other frames", what, frames)
	}
}

// wantSeeks does so at the beginning, in the middle and at the end, and asks that what is beyond is refused.
func wantSeeks(t *testing.T, what string, r replay.Recording) {
	t.Helper()
	end := len(r.Pads)
	for _, n := range []int{0, end / 2, end} {
		wantSeek(t, what, r, n)
	}
	for _, n := range []int{-1, -2, end + 1, end + 2, math.MinInt, math.MaxInt, 1 << 32, 1<<32 + end, -1 << 32} {
		if c, e := replay.Seek(r, n); e != badInput || c != nil {
			t.Errorf("21.4: %s: Seek of %d: %t, %d, want none, %d", what, n, c != nil, e, badInput)
		}
	}
}

func TestSeek(t *testing.T) { // 21.4: at each frame; -1 and one more than there are
	r := rand.New(rand.NewSource(2141))
	for _, src := range sourcesOfLives {
		x := recorded(t, imageOf(t, src), 70, anyPads(r, 13)...)
		for n := range 14 {
			wantSeek(t, src, x, n)
		}
		wantSeeks(t, src, x)
	}
}

func TestSeekWithoutFrames(t *testing.T) { // 21.4
	wantSeeks(t, "no frames", recorded(t, imageOf(t, shows), 70))
	wantSeeks(t, "one frame", recorded(t, imageOf(t, shows), 70, 3))
}

func TestSeekInLongRecordings(t *testing.T) { // 21.4
	r := rand.New(rand.NewSource(2142))
	x := recorded(t, imageOf(t, adds), 40, anyPads(r, mostPads)...)
	wantSeeks(t, "1024 frames", x)
	for _, n := range []int{1, 127, 1023} {
		wantSeek(t, "1024 frames", x, n)
	}
}

func TestSeekDoesNotLookAtDigests(t *testing.T) { // 21.4
	for _, src := range sourcesOfLives {
		x := recorded(t, imageOf(t, src), 70, 3, 4, 9, 5, 5)
		for i := range x.Digests {
			x.Digests[i] = uint32(i)
		}
		wantSeeks(t, src, x)
		for n := range 6 {
			wantSeek(t, src, x, n)
		}
	}
}

func TestSoughtConsolesAreWhole(t *testing.T) { // 21.4: it is a console as others are
	image := imageOf(t, adds)
	x := recorded(t, image, 70, 3, 4, 9)
	c, _ := replay.Seek(x, 2)
	if v := c.Check(); v != (api.Verdict{}) {
		t.Errorf("21.4: Check() = %v", v)
	}
	if status, fault, n := c.Status(); status != api.Running || fault != 0 || n != 2 {
		t.Errorf("21.4: Status() = %d, %d, %d", status, fault, n)
	}
	c.Eject()
	if o := c.Frame(1); o.Status != api.NoCart || o.Idle != 70 {
		t.Errorf("21.4: behind Eject: %d, idle %d", o.Status, o.Idle)
	}
	if e := c.Load(image); e != fine {
		t.Errorf("21.4: Load = %d", e)
	}
	wantBehind(t, "Load", c, x, 0)
}
