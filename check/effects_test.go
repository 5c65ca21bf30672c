package check_test

import (
	"cmp"
	"hash/crc32"
	"slices"
	"testing"

	"wisp/api"
	"wisp/cart"
	"wisp/carts"
	"wisp/check"
)

// brief is a text as far as a message has room for it.
func brief(s string) string {
	if len(s) > 300 {
		return s[:150] + " .. " + s[len(s)-100:]
	}
	return s
}

// several has words with effects of all sorts, to all of which main leads; main is the fourth.
func several() api.Cart {
	const nop, pad, drop, dup, halt, exit, branch, zbranch = 18, 122, 26, 24, 22, 16, 8, 10
	c := carts.Of(152,
		1, drop, exit, // 128: 1, 0
		1, dup, dup, dup, exit, // 134: 1, 4
		1, pad, pad, exit, // 144: 0, 2
		1, branch, 176, exit, // 152: main
		1, drop, drop, pad, exit, // 160: 2, 1
		1, nop, exit, // 170: 0, 0
		144, 160, 134, 128, 128, 128, 128, 170, pad, zbranch, 158, 202, exit, // 176: main goes on
		1, halt, // 202: 0, 0, never
	)
	c.Effects = []api.Effect{{At: 128, In: 1}, {At: 134, In: 1, Out: 4}, {At: 144, Out: 2}, {At: 152}, {At: 160, In: 2, Out: 1}, {At: 170}, {At: 202}}
	return c
}

// without is a cartridge whose effects are those that are not marked, each by a bit.
func without(c api.Cart, set int) api.Cart {
	var left []api.Effect
	for i, x := range c.Effects {
		if set>>i&1 == 0 {
			left = append(left, x)
		}
	}
	return with(c, left...)
}

func TestEffectsThatAreMissing(t *testing.T) { // 18.1, 5: the lowest of the words without theirs, whichever these are
	c := several()
	wantAccepted(t, "all are there", c, 4, 1)
	for set := 1; set < 1<<len(c.Effects); set++ {
		lowest := 0
		for set>>lowest&1 == 0 {
			lowest++
		}
		wantRefused(t, "some are missing", without(c, set), badEffect, c.Effects[lowest].At)
	}
}

func TestOtherEffects(t *testing.T) { // 18.1, 5: another In, another Out, both, the two exchanged
	c := several()
	for i, x := range c.Effects {
		for _, y := range []api.Effect{
			{In: x.In + 1, Out: x.Out}, {In: x.In, Out: x.Out + 1}, {In: x.In - 1, Out: x.Out}, {In: x.In, Out: x.Out - 1},
			{In: x.In + 1, Out: x.Out + 1}, {In: x.In - 1, Out: x.Out - 1}, {In: x.Out, Out: x.In},
			{In: 256, Out: x.Out}, {In: x.In, Out: 256}, {In: 256, Out: 256}, {In: x.In ^ 128, Out: x.Out ^ 128},
		} {
			if y.In == x.In && y.Out == x.Out {
				continue
			}
			y.At = x.At
			other := with(c, slices.Clone(c.Effects)...)
			other.Effects[i] = y
			if y.In < 0 || y.Out < 0 {
				wantRefused(t, "an effect that may not be", other, badCart, 0)
				continue
			}
			wantRefused(t, "another effect", other, badEffect, x.At)
			// The first that is wrong is told, though others are missing.
			wantRefused(t, "another effect, and those behind it missing", without(other, 1<<7-2<<i), badEffect, x.At)
		}
	}
	// That of another word does not count.
	moved := with(c, slices.Clone(c.Effects)...)
	moved.Effects[5].At--
	wantRefused(t, "an effect ahead of its word", moved, badEffect, 170)
	moved.Effects[5].At += 2
	wantRefused(t, "an effect behind its word", moved, badEffect, 170)
}

func TestEffectsThatStandTwice(t *testing.T) { // 18.1, 1: such a cartridge may not be, whether one of the two fits or both or none
	c := several()
	for i, x := range c.Effects {
		for _, y := range []api.Effect{x, {At: x.At, In: 9, Out: 9}} {
			for _, at := range []int{i, i + 1} {
				wantRefused(t, "twice", with(c, slices.Insert(slices.Clone(c.Effects), at, y)...), badCart, 0)
			}
		}
	}
}

// among puts effects in their order among those of a cartridge.
func among(c api.Cart, more ...api.Effect) api.Cart {
	all := append(slices.Clone(c.Effects), more...)
	slices.SortFunc(all, func(a, b api.Effect) int { return cmp.Compare(a.At, b.At) })
	return with(c, all...)
}

func TestEffectsOfOtherAddresses(t *testing.T) { // 18.1, 5 and 18.6: where no word stands to which main leads
	c := several()
	var all []api.Effect
	for at := range 65536 {
		x := api.Effect{At: uint16(at), In: at % 257, Out: 256 - at%251}
		if slices.ContainsFunc(c.Effects, func(y api.Effect) bool { return x.At == y.At }) {
			continue
		}
		if at < 300 || at%997 == 0 || at > 65500 {
			wantAccepted(t, "one of another address", among(c, x), 4, 1)
			wantRefused(t, "one of another address, and one missing", among(without(c, 1<<4), x), badEffect, 160)
		}
		if len(all) < 8192-len(c.Effects) {
			all = append(all, x)
		}
	}
	wantAccepted(t, "as many as may be", among(c, all...), 4, 1)
	// Words to which main does not lead, constants and variables.
	c = cartOf(t, "7 constant k : w dup ; variable v : bad r> ; : main k v ! halt w ; : behind 1 ;")
	wantAccepted(t, "what main does not lead to", c, 2, 0)
	for _, at := range []uint16{128, 132, 138, 142, 162} {
		others := with(c, api.Effect{At: at, In: 7, Out: 7}, api.Effect{At: c.Entry})
		if at > c.Entry {
			slices.Reverse(others.Effects)
		}
		wantAccepted(t, "another effect of what main does not lead to", others, 2, 0)
	}
	wantAccepted(t, "main's effect alone", with(c, api.Effect{At: c.Entry}), 2, 0)
	wantRefused(t, "all but main's", with(c, c.Effects[0], c.Effects[2]), badEffect, c.Entry)
}

func TestWordsBehindWhatNeverReturns(t *testing.T) { // 18.1, 5: they are flow's words, and so must be declared
	c := cartOf(t, ": never halt ; : w dup ; : main never w ;")
	wantAccepted(t, "all are declared", c, 0, 1)
	wantRefused(t, "w is not", without(c, 1<<1), badEffect, 134)
	wantRefused(t, "a word without a shape", cartOf(t, ": never halt ; : w r> ; : main never w ;"), badReturn, 136)
}

// image is a cartridge's bytes.
func image(t *testing.T, c api.Cart) []byte {
	t.Helper()
	b, e := cart.Encode(c)
	if e != fine {
		t.Fatalf("the tests' own cartridge: %d", e)
	}
	return b
}

// summed is bytes with their right sum behind them.
func summed(b []byte) []byte {
	s := crc32.ChecksumIEEE(b)
	return append(slices.Clone(b), byte(s), byte(s>>8), byte(s>>16), byte(s>>24))
}

func wantBytes(t *testing.T, what string, b []byte, e api.Errno, at uint16) {
	t.Helper()
	if v := check.Bytes(b); v != (api.Verdict{Err: e, At: at}) {
		t.Errorf("18.2: %s: Bytes = %v, want {%d %d}", what, v, e, at)
	}
}

func TestBytes(t *testing.T) { // 18.2: each error of cart.Decode, at 0; else Check's verdict
	good := image(t, several())
	body := good[:len(good)-4]
	wantBytes(t, "a cartridge that is accepted", good, fine, 0)
	wantBytes(t, "one that is not", image(t, without(several(), 1<<2)), badEffect, 144)
	wantBytes(t, "one without code", image(t, api.Cart{Entry: 6}), badCall, 6)
	for what, b := range map[string][]byte{"none": nil, "no": {}, "four": []byte("WISP"), "another version": []byte("WISP\x02"), "another beginning": append([]byte("WISQ"), good[4:]...)} {
		wantBytes(t, what+" bytes", b, badMagic, 0)
	}
	wantBytes(t, "the beginning", good[:5], badSum, 0)
	wantBytes(t, "a byte more", append(slices.Clone(good), 0), badSum, 0)
	wantBytes(t, "a byte less", good[:len(good)-1], badSum, 0)
	wantBytes(t, "more than there may be", make([]byte, 1<<20), badMagic, 0)
	wantBytes(t, "more than there may be, with the beginning", append(slices.Clone(body), make([]byte, 1<<20)...), badSum, 0)
	for i := range good {
		turned := slices.Clone(good)
		turned[i] ^= 1 << (i % 8)
		if i < 5 {
			wantBytes(t, "a byte of the beginning turned", turned, badMagic, 0)
		} else {
			wantBytes(t, "a byte turned", turned, badSum, 0)
		}
	}
	sections := slices.Clone(body)
	sections[5] = 1
	wantBytes(t, "one section", summed(sections), badTable, 0)
	wantBytes(t, "no sections", summed([]byte("WISP\x01\x00\x00\x00")), badTable, 0)
	falling := slices.Clone(body)
	falling[len(falling)-6] = 1
	wantBytes(t, "effects that do not rise", summed(falling), badSection, 0)
	high := slices.Clone(body)
	high[len(high)-1] = 2
	wantBytes(t, "an effect that leaves 512", summed(high), badSection, 0)
	// Bytes that are not those of this cartridge, but of one.
	entry := slices.Clone(body)
	entry[6] = 154
	wantBytes(t, "another entry", summed(entry), badCall, 154)
}
