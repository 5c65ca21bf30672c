package replay_test

import (
	"bytes"
	"fmt"
	"math/rand"
	"testing"
)

func TestVerifyOfTurnedDigests(t *testing.T) { // 21.2: each in turn, and the first of several
	r := rand.New(rand.NewSource(2121))
	for _, src := range sourcesOfLives {
		x := recorded(t, imageOf(t, src), 60, anyPads(r, 24)...)
		for i := range x.Digests {
			for _, bit := range []uint32{1, 1 << 31, 1 << r.Intn(32), 0xffffffff} {
				y := clone(x)
				y.Digests[i] ^= bit
				wantVerify(t, fmt.Sprintf("%s, the digest %d turned", src, i), y, i, other)
				for k := i + 1; k < len(y.Digests); k++ {
					y.Digests[k] ^= bit
				}
				wantVerify(t, fmt.Sprintf("%s, the digests from %d on turned", src, i), y, i, other)
			}
			y := clone(x)
			last := i + r.Intn(len(x.Digests)-i)
			y.Digests[last]++
			y.Digests[i] += 2
			wantVerify(t, fmt.Sprintf("%s, the digests %d and %d turned", src, i, last), y, i, other)
		}
		wantVerify(t, src, x, -1, fine)
	}
}

func TestVerifyOfLongRecordings(t *testing.T) { // 21.2: up to the last frame that may be
	x := recorded(t, imageOf(t, adds), 30, make([]uint8, mostPads)...)
	for _, i := range []int{0, 1, 255, 256, 1022, 1023} {
		y := clone(x)
		y.Digests[i] ^= 4
		wantVerify(t, fmt.Sprintf("the digest %d of 1024", i), y, i, other)
	}
	wantVerify(t, "1024 frames", x, -1, fine)
}

func TestVerifyOfChangedPads(t *testing.T) { // 21.2, 21.5: what the cartridge looks at, and what it does not; at once, or later
	pads := []uint8{4, 4, 7, 0, 255, 12, 12, 80}
	for _, x := range []struct {
		src   string
		flip  uint8
		later int // how many frames later it shows; -1: never
	}{{blind, 255, -1}, {blind, 1, -1}, {shows, 1, 0}, {shows, 128, 0}, {later, 1, 2}, {later, 64, 2}, {adds, 1, 0}, {lowest, 1, 0}, {lowest, 2, -1}, {lowest, 254, -1}, {plays, 16, 0}, {changes, 255, -1}} {
		r := recorded(t, imageOf(t, x.src), 100, pads...)
		for i := range pads {
			y := clone(r)
			y.Pads[i] ^= x.flip
			if at := i + x.later; x.later >= 0 && at < len(pads) {
				wantVerify(t, fmt.Sprintf("%s, the gamepad %d changed by %d", x.src, i, x.flip), y, at, other)
			} else {
				wantVerify(t, fmt.Sprintf("%s, the gamepad %d changed by %d", x.src, i, x.flip), y, -1, fine)
			}
		}
	}
}

func TestVerifyOfAnEnd(t *testing.T) { // 21.5: a gamepad at which the machine halts or faults
	for _, src := range []string{halts, faults} {
		pads := []uint8{1, 2, 3, 4, 5}
		r := recorded(t, imageOf(t, src), 100, pads...)
		for i := range pads {
			y := clone(r)
			y.Pads[i] = 9
			wantVerify(t, src, y, i, other)
			z := recorded(t, imageOf(t, src), 100, y.Pads...)
			wantVerify(t, src, z, -1, fine)
			for k := i + 1; k < len(pads); k++ { // it has ended: nobody looks any more
				z.Pads[k] = 200
			}
			wantVerify(t, src+" and behind the end", z, -1, fine)
			z.Pads[i] = 8
			wantVerify(t, src+" without the end", z, i, other)
		}
	}
}

func TestVerifyOfOtherNumbersOfDigests(t *testing.T) { // 21.2: too few and too many; nil too
	for _, many := range []int{0, 1, 2, 5, mostPads} {
		x := recorded(t, imageOf(t, shows), 60, bytes.Repeat([]byte{3}, many)...)
		for _, digests := range [][]uint32{nil, make([]uint32, many), make([]uint32, many+1), make([]uint32, many+2), make([]uint32, 2*many+1)} {
			y := x
			y.Digests = digests
			if len(digests) != many {
				wantNoRecording(t, fmt.Sprintf("%d frames with %d digests", many, len(digests)), y)
			}
		}
		if many > 0 {
			y := clone(x)
			y.Digests = y.Digests[:many-1]
			wantNoRecording(t, "a digest too few", y)
			y.Digests = append(clone(x).Digests, x.Digests[many-1])
			wantNoRecording(t, "a digest too many", y)
			y.Digests, y.Pads = x.Digests, x.Pads[1:]
			wantNoRecording(t, "a gamepad too few", y)
		}
	}
}

func TestVerifyOfAnotherBudgetOrCart(t *testing.T) { // 21.2: then the frames are others
	x := recorded(t, imageOf(t, shows), 60, 1, 2, 3)
	y := clone(x)
	y.Budget = 61
	wantVerify(t, "another budget", y, 0, other)
	y = clone(x)
	y.Cart = imageOf(t, later)
	wantVerify(t, "another cartridge", y, 0, other)
	y.Pads, y.Digests = nil, nil
	wantVerify(t, "no frames", y, -1, fine)
}
