package check_test

import (
	"slices"
	"testing"

	"wisp/api"
	"wisp/cart"
	"wisp/carts"
	"wisp/check"
	"wisp/comp"
	"wisp/sources"
)

// Errors by the document's numbers, not by api's names: a slip in one of the two must show.
const (
	fine       = api.Errno(0)
	badMagic   = api.Errno(70)
	badSum     = api.Errno(71)
	badTable   = api.Errno(72)
	badSection = api.Errno(73)
	badCart    = api.Errno(74)
	badJoin    = api.Errno(150)
	badLoop    = api.Errno(151)
	badReturn  = api.Errno(152)
	badDepth   = api.Errno(153)
	badEffect  = api.Errno(154)
	badTarget  = api.Errno(160)
	badOpcode  = api.Errno(161)
	badFall    = api.Errno(162)
	badCall    = api.Errno(163)
)

// hold holds the three calls to one answer; Bytes only where the cartridge has bytes.
func hold(t *testing.T, what string, c api.Cart, data, ret int, want api.Verdict) {
	t.Helper()
	if v := check.Check(c); v != want {
		t.Fatalf("18.1: %s: Check = %v, want %v", what, v, want)
	}
	if d, r, v := check.Depths(c); d != data || r != ret || v != want {
		t.Fatalf("18.3: %s: Depths = %d, %d, %v, want %d, %d, %v", what, d, r, v, data, ret, want)
	}
	if b, e := cart.Encode(c); e == fine {
		if v := check.Bytes(b); v != want {
			t.Fatalf("18.2: %s: Bytes = %v, want %v", what, v, want)
		}
	}
}

func wantAccepted(t *testing.T, what string, c api.Cart, data, ret int) {
	t.Helper()
	hold(t, what, c, data, ret, api.Verdict{})
}

// wantRefused asks for a verdict, and for no depths beside it.
func wantRefused(t *testing.T, what string, c api.Cart, e api.Errno, at uint16) {
	t.Helper()
	hold(t, what, c, 0, 0, api.Verdict{Err: e, At: at})
}

// cartOf is the cartridge of a text.
func cartOf(t *testing.T, src string) api.Cart {
	t.Helper()
	b, at, e := comp.Compile(src)
	c, f := cart.Decode(b)
	if e != fine || f != fine {
		t.Fatalf("the tests' own %.300s: %d at %v, %d", src, e, at, f)
	}
	return c
}

// with is a cartridge with other effects.
func with(c api.Cart, effects ...api.Effect) api.Cart {
	c.Effects = effects
	return c
}

// square is that of example 1: sq lies at 128, main at 136.
func square(t *testing.T) api.Cart { return cartOf(t, ": sq dup * ; : main 5 sq drop ;") }

func TestExample1(t *testing.T) { // 18.1, 18.3
	wantAccepted(t, "nothing but main", cartOf(t, ": main ;"), 0, 0)
	c := square(t)
	wantAccepted(t, "sq", c, 2, 1)
	wantRefused(t, "sq leaves two", with(c, api.Effect{At: 128, In: 1, Out: 2}, api.Effect{At: 136}), badEffect, 128)
	wantRefused(t, "nothing is said of sq", with(c, api.Effect{At: 136}), badEffect, 128)
	wantAccepted(t, "an effect for the address 2", with(c, api.Effect{At: 2, In: 1, Out: 2}, api.Effect{At: 128, In: 1, Out: 1}, api.Effect{At: 136}), 2, 1)
}

func TestExample2(t *testing.T) { // 18.1
	for _, src := range []string{": main 1 ;", ": main drop ;"} {
		wantRefused(t, src, cartOf(t, src), badEffect, 128)
		c := cartOf(t, ": ahead nop nop ; "+src)
		wantRefused(t, src+" further on", c, badEffect, c.Entry)
	}
	for _, entry := range []uint16{0, 2, 128, 65535} {
		wantRefused(t, "no code", api.Cart{Entry: entry}, badCall, entry)
	}
}

func TestExample3(t *testing.T) { // 18.1, 18.2
	for _, b := range [][]byte{nil, {}} {
		if v := check.Bytes(b); v != (api.Verdict{Err: badMagic}) {
			t.Errorf("18.2: Bytes(%v) = %v", b, v)
		}
	}
	wantRefused(t, "three bytes", api.Cart{Code: make([]byte, 3)}, badCart, 0)
}

// ill are things that may be wrong in one cartridge; each is told ahead of those behind it.
var ill = []struct {
	what string
	v    api.Verdict
}{
	{"no cartridge", api.Verdict{Err: badCart}},
	{"no instruction", api.Verdict{Err: badOpcode, At: 148}},
	{"a word that calls itself", api.Verdict{Err: badCall, At: 128}},
	{"a word without a shape", api.Verdict{Err: badReturn, At: 136}},
	{"main leaves a cell", api.Verdict{Err: badEffect, At: 140}},
	{"a word without its effect", api.Verdict{Err: badEffect, At: 128}},
}

// illCart has those things that are asked for: words at 128 and 134, main at 140 with its cells at 146 and 148.
func illCart(is func(what int) bool) api.Cart {
	const nop, pad, fromR = 18, 122, 112
	choose := func(what int, wrong, right uint16) uint16 {
		if is(what) {
			return wrong
		}
		return right
	}
	c := carts.Of(140, 1, choose(2, 128, nop), 16, 1, choose(3, fromR, nop), 16, 1, 128, 134, choose(4, pad, nop), choose(1, 0, nop), 16)
	c.Effects = []api.Effect{{At: 128}, {At: 134}, {At: 140, Out: int(choose(4, 1, 0))}}
	if is(5) {
		c.Effects = c.Effects[1:]
	}
	if is(0) {
		c.Banks = []api.Bank{{Num: 3}, {Num: 3}}
	}
	return c
}

func TestTheFirstThatIsWrong(t *testing.T) { // 18.1: its steps in their order, whatever else is wrong
	wantAccepted(t, "nothing is wrong", illCart(func(int) bool { return false }), 0, 1)
	for set := 1; set < 1<<len(ill); set++ {
		is := func(what int) bool { return set>>what&1 > 0 }
		first, all := -1, ""
		for i, x := range ill {
			if is(i) {
				all += x.what + ", "
			}
			if is(i) && first < 0 {
				first = i
			}
		}
		wantRefused(t, all, illCart(is), ill[first].v.Err, ill[first].v.At)
	}
}

func TestNoCartridge(t *testing.T) { // 18.1, 1: cart.Check's error, at 0, whatever stands in it
	for what, c := range carts.Refused() {
		wantRefused(t, what, c, badCart, 0)
		good := square(t)
		c.Entry = good.Entry
		if c.Code == nil {
			c.Code = good.Code
			wantRefused(t, what+" beside code that is in order", c, badCart, 0)
		}
		if c.Effects == nil {
			c.Effects = good.Effects
			wantRefused(t, what+" beside effects that are in order", c, badCart, 0)
		}
	}
	for what, c := range carts.JustTaken() {
		wantRefused(t, what, c, badCall, c.Entry)
	}
}

func TestVerdictsOfFlow(t *testing.T) { // 18.1, 2: with their addresses
	wantRefused(t, "a constant", carts.Of(128, 2, 9), badCall, 128)
	wantRefused(t, "an odd entry", carts.Of(129, 1, 16), badCall, 129)
	wantRefused(t, "an entry beyond the code", carts.Of(132, 1, 16), badCall, 132)
	wantRefused(t, "a target that is odd", carts.Of(128, 1, 8, 131), badTarget, 130)
	wantRefused(t, "an operand as an instruction", carts.Of(128, 1, 6, 16, 8, 132), badTarget, 132)
	wantRefused(t, "two words with one instruction", carts.Of(134, 1, 18, 16, 1, 128, 8, 130), badTarget, 130)
	wantRefused(t, "no primitive", carts.Of(128, 1, 8, 132), badOpcode, 132)
	wantRefused(t, "the code ends", carts.Of(128, 1, 42), badFall, 132)
	wantRefused(t, "the code ends behind lit", carts.Of(128, 1, 6), badFall, 130)
	wantRefused(t, "a word that calls itself", carts.Of(128, 1, 6, 7, 128, 16), badCall, 128)
	wantRefused(t, "two that call one another", carts.Of(134, 1, 134, 16, 1, 128, 16), badCall, 128)
	wantRefused(t, "words ahead of their order", carts.Of(128, 1, 128, 0), badOpcode, 132)
}

func TestVerdictsOfInfer(t *testing.T) { // 18.1, 3: with their addresses
	for src, want := range map[string]api.Verdict{
		": main r> drop ;":               {Err: badReturn, At: 130},
		": main 1 >r ;":                  {Err: badReturn, At: 136},
		": main i drop ;":                {Err: badReturn, At: 130},
		": w >r ; : main 1 w ;":          {Err: badReturn, At: 132},
		": main begin 1 again ;":         {Err: badLoop, At: 134},
		": main 5 0 do 1 loop ;":         {Err: badLoop, At: 144},
		": main 1 if 2 then ;":           {Err: badJoin, At: 138},
		": main 1 if 2 exit then ;":      {Err: badJoin, At: 144},
		": w drop drop ; : main r> w ; ": {Err: badReturn, At: 138},
		": main " + sources.Times(257, "1") + sources.Times(257, "drop") + ";":                     {Err: badDepth, At: 130 + 4*256},
		": w " + sources.Times(257, "drop") + "; : main " + sources.Times(257, "1") + "w ;":        {Err: badDepth, At: 130 + 2*256},
		": w drop " + sources.Times(257, "1") + "; : main 1 w " + sources.Times(257, "drop") + ";": {Err: badDepth, At: 128},
		": main " + sources.Times(129, "1 >r") + sources.Times(129, "r> drop") + ";":               {Err: badDepth, At: 130 + 6*128 + 4},
	} {
		c := cartOf(t, src)
		wantRefused(t, brief(src), c, want.Err, want.At)
		// Whatever is declared of it.
		wantRefused(t, brief(src), with(c, api.Effect{At: 128}, api.Effect{At: c.Entry | 1}), want.Err, want.At)
	}
}

func TestMainTakesOrLeaves(t *testing.T) { // 18.1, 4: at the entry, also where its effect is declared
	for _, src := range []string{
		": main drop ;", ": main dup 2drop ;", ": main drop 1 ;", ": main dup drop ;", ": main 2drop 1 ;",
		": main 1 ;", ": main 1 2 ;", ": main dup ;", ": main pad if 1 else 2 then ;", ": main " + sources.Times(256, "1") + ";", ": main " + sources.Times(256, "drop") + ";",
		": main drop begin yield again ;", ": main drop halt ;", ": never drop halt ; : main never ;", ": w drop ; : main w ;", ": w 1 ; : main w ;",
		": main pad if drop exit then drop ;",
	} {
		for _, ahead := range []string{"", ": ahead ; ", "7 constant k "} {
			c := cartOf(t, ahead+src)
			if !slices.ContainsFunc(c.Effects, func(x api.Effect) bool { return x.At == c.Entry }) {
				t.Fatalf("the tests' own %s has no shape", src)
			}
			wantRefused(t, brief(ahead+src), c, badEffect, c.Entry)
			wantRefused(t, brief(ahead+src)+" without effects", with(c), badEffect, c.Entry)
			wantRefused(t, brief(ahead+src)+" with another effect", with(c, api.Effect{At: c.Entry}), badEffect, c.Entry)
		}
	}
	// It is main that is asked, and main is the word at the entry.
	c := cartOf(t, ": w drop ; : main 1 w ;")
	wantAccepted(t, "w in main", c, 1, 1)
	c.Entry = 128
	wantRefused(t, "w as main", c, badEffect, 128)
}

func TestMainThatNeverReturns(t *testing.T) { // 18.1, 4: whatever it has left by then
	for src, want := range map[string][2]int{
		": main halt ;":                                                {0, 0},
		": main begin yield again ;":                                   {0, 0},
		": main 1 2 3 halt ;":                                          {3, 0},
		": main 1 begin yield again ;":                                 {1, 0},
		": main 1 >r 2 begin r@ drop yield again ;":                    {2, 1},
		": never 1 halt ; : main 7 never ;":                            {2, 1},
		": never begin again ; : main 1 2 >r never ;":                  {2, 2},
		": main 5 0 do halt loop ;":                                    {2, 2},
		": takes drop halt ; : main 1 takes ;":                         {1, 1},
		": main pad if 1 halt then 2 3 begin yield again ;":            {2, 0},
		": main " + sources.Times(256, "1") + "begin yield again ;":    {256, 0},
		": main " + sources.Times(128, "1 >r") + "begin yield again ;": {1, 128},
	} {
		c := cartOf(t, src)
		wantAccepted(t, brief(src), c, want[0], want[1])
		// Its effect says that it leaves nothing.
		last := len(c.Effects) - 1
		if c.Effects[last] != (api.Effect{At: c.Entry}) {
			t.Errorf("%s: %v", brief(src), c.Effects)
		}
		other := slices.Clone(c.Effects)
		other[last].Out = max(1, want[0])
		wantRefused(t, brief(src)+" with another Out", with(c, other...), badEffect, c.Entry)
	}
}
