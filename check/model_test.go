package check_test

import (
	"math/rand"
	"slices"
	"testing"

	"wisp/api"
	"wisp/cart"
	"wisp/carts"
	"wisp/check"
	"wisp/flow"
	"wisp/infer"
	"wisp/sources"
)

// modelled says 18.1 and 18.3 once more, step by step, each layer asked for itself.
func modelled(c api.Cart) (data, ret int, v api.Verdict) {
	if e := cart.Check(c); e != fine {
		return 0, 0, api.Verdict{Err: e}
	}
	words, v := flow.Words(c)
	if v.Err != fine {
		return 0, 0, v
	}
	if _, v := flow.Order(words); v.Err != fine {
		return 0, 0, v
	}
	shapes, v := infer.Shapes(c)
	if v.Err != fine {
		return 0, 0, v
	}
	main := shapes[c.Entry]
	if main.In != 0 || !main.Never && main.Out != 0 {
		return 0, 0, api.Verdict{Err: badEffect, At: c.Entry}
	}
	for _, w := range words {
		s := shapes[w.At]
		if !slices.Contains(c.Effects, api.Effect{At: w.At, In: s.In, Out: s.Out}) {
			return 0, 0, api.Verdict{Err: badEffect, At: w.At}
		}
	}
	return main.Data, main.Return, api.Verdict{}
}

// anyCart is of all sorts, a source's for the most part, now and then with some cells changed, with the effects that its words have.
func anyCart(t *testing.T, r *rand.Rand) api.Cart {
	t.Helper()
	if r.Intn(4) == 0 {
		return declared(carts.Any(r))
	}
	src := sources.NewLively(r).Program(r.Intn(8))
	if r.Intn(4) == 0 {
		src = sources.New(r).Some()
	}
	return declared(carts.Changed(r, cartOf(t, src), r.Intn(3)))
}

// declared is a cartridge with just the effects of the words to which main leads, if these have shapes.
func declared(c api.Cart) api.Cart {
	shapes, v := infer.Shapes(c)
	if v.Err != fine {
		return c
	}
	return carts.Declared(c, shapes)
}

// spoilt is a cartridge of which one thing is said otherwise.
func spoilt(r *rand.Rand, c api.Cart) api.Cart {
	c.Effects = slices.Clone(c.Effects)
	if len(c.Effects) == 0 || r.Intn(8) == 0 {
		return among(c, api.Effect{At: uint16(r.Intn(65536)), In: r.Intn(4), Out: r.Intn(4)})
	}
	i := r.Intn(len(c.Effects))
	x := &c.Effects[i]
	switch r.Intn(14) {
	case 0:
		c.Effects = slices.Insert(c.Effects, i, *x)
	case 1, 2:
		c.Effects = slices.Delete(c.Effects, i, i+1)
	case 3, 4:
		x.In = r.Intn(3)
	case 5, 6:
		x.Out = r.Intn(3)
	case 7, 8:
		x.At += uint16(r.Intn(5)) - 2
	case 9, 10:
		x.In, x.Out = x.Out, x.In
	default:
		c.Entry = x.At
	}
	return c
}

func TestAgainstTheModel(t *testing.T) { // 18.1 to 18.3: any cartridges
	r := rand.New(rand.NewSource(181))
	met := map[api.Errno]int{}
	high, low := 0, 0
	for range 12000 {
		c := anyCart(t, r)
		for range r.Intn(3) {
			c = spoilt(r, c)
		}
		data, ret, want := modelled(c)
		hold(t, "any", c, data, ret, want)
		met[want.Err]++
		if data > 2 && ret > 2 {
			high++
		}
		if want.Err == badEffect && want.At != c.Entry {
			low++
		}
	}
	for _, e := range []api.Errno{fine, badCart, badJoin, badLoop, badReturn, badEffect, badTarget, badOpcode, badFall, badCall} {
		if met[e] < 40 {
			t.Errorf("the error %d was met %d times: %v", e, met[e], met)
		}
	}
	if high < 300 || low < 300 {
		t.Errorf("%d accepted ones use both stacks, of %d a word beside main is told; all: %v", high, low, met)
	}
}

func TestAnyBytes(t *testing.T) { // 18.2, R1: noise, and bytes of cartridges with some changed, with their right sum and without it
	r := rand.New(rand.NewSource(182))
	met := map[api.Errno]int{}
	for range 12000 {
		b := image(t, carts.Any(r))
		if r.Intn(3) > 0 {
			c := anyCart(t, r)
			if cart.Check(c) == fine {
				b = image(t, c)
			}
		}
		body := slices.Clone(b[:len(b)-4])
		for range r.Intn(3) {
			body[r.Intn(len(body))] = byte(r.Intn(256))
		}
		if r.Intn(4) == 0 {
			body = body[:r.Intn(len(body))]
		}
		b = summed(body)
		if r.Intn(10) == 0 {
			b[r.Intn(len(b))] ^= byte(r.Intn(256))
		}
		c, e := cart.Decode(b)
		want := api.Verdict{Err: e}
		if e == fine {
			_, _, want = modelled(c)
		}
		if v := check.Bytes(b); v != want {
			t.Fatalf("18.2: Bytes(%v) = %v, want %v", b, v, want)
		}
		met[want.Err]++
	}
	for _, e := range []api.Errno{fine, badMagic, badSum, badTable, badSection, badReturn, badOpcode, badCall} {
		if met[e] < 20 {
			t.Errorf("the error %d was met %d times: %v", e, met[e], met)
		}
	}
	for range 20000 {
		noise := make([]byte, r.Intn(60))
		r.Read(noise)
		copy(noise, "WISP\x01"[:r.Intn(6)])
		_, e := cart.Decode(noise)
		if v := check.Bytes(noise); e == fine || v != (api.Verdict{Err: e}) {
			t.Fatalf("18.2: Bytes(%v) = %v, want {%d 0}", noise, v, e)
		}
	}
}
