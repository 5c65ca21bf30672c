package check_test

import (
	"bytes"
	"fmt"
	"math/rand"
	"reflect"
	"slices"
	"strings"
	"testing"

	"wisp/api"
	"wisp/cart"
	"wisp/carts"
	"wisp/check"
	"wisp/effect"
	"wisp/flow"
	"wisp/sources"
	"wisp/spare"
	"wisp/tree"
)

// anyBanks are some that may be.
func anyBanks(r *rand.Rand) []api.Bank {
	var all []api.Bank
	for num := range 16 {
		if r.Intn(4) == 0 {
			data := make([]byte, r.Intn(20))
			r.Read(data)
			all = append(all, api.Bank{Num: num, Data: data})
		}
	}
	return all
}

// otherEffects is a cartridge in which anything may be said of the addresses at which no word of these stands, and nothing else than it said of those words.
func otherEffects(r *rand.Rand, c api.Cart, words []flow.Word) api.Cart {
	said := map[uint16]api.Effect{}
	for range r.Intn(30) {
		at := uint16(r.Intn(65536))
		if r.Intn(2) == 0 {
			at = uint16(128 + r.Intn(100))
		}
		said[at] = api.Effect{At: at, In: r.Intn(257), Out: r.Intn(257)}
	}
	for _, w := range words {
		delete(said, w.At)
		for _, x := range c.Effects {
			if x.At == w.At {
				said[w.At] = x
			}
		}
	}
	var all []api.Effect
	for _, x := range said {
		all = append(all, x)
	}
	return among(with(c), all...)
}

func TestBanksAndOtherEffectsDoNotMatter(t *testing.T) { // 18.6: of whatever is accepted, and of whatever is not
	r := rand.New(rand.NewSource(186))
	accepted, late := 0, 0
	for range 3000 {
		c := anyCart(t, r)
		if r.Intn(3) == 0 {
			c = spoilt(r, c)
		}
		if cart.Check(c) != fine {
			continue
		}
		words, _ := flow.Words(c)
		data, ret, v := check.Depths(c)
		for range 4 {
			other := otherEffects(r, c, words)
			other.Banks = anyBanks(r)
			hold(t, fmt.Sprintf("18.6: with %v and %v for %v and %v", other.Effects, other.Banks, c.Effects, c.Banks), other, data, ret, v)
		}
		if v.Err == fine {
			accepted++
		} else if v.Err == badEffect {
			late++
		}
	}
	if accepted < 800 || late < 300 {
		t.Errorf("%d were accepted, %d refused for their effects", accepted, late)
	}
	c := square(t)
	for _, banks := range [][]api.Bank{nil, {{}}, {{Num: 15, Data: make([]byte, 16384)}}, {{Num: 0, Data: []byte{1}}, {Num: 1}}} {
		c.Banks = banks
		wantAccepted(t, "with other banks", c, 2, 1)
	}
}

// wantTypable asks of a source that is typable that its cartridge is accepted, with main's Data and Return.
func wantTypable(t *testing.T, src string) api.Shape {
	t.Helper()
	p, _, e := tree.Parse(src)
	f, at := effect.Typable(p)
	if e != fine || f != fine {
		t.Fatalf("the tests' own %s is not typable: %d, %d at %v", brief(src), e, f, at)
	}
	typed, _ := effect.Shapes(p)
	main := typed[slices.IndexFunc(typed, func(x effect.Typed) bool { return x.Name == "main" })].Shape
	hold(t, "18.7: "+brief(src), cartOf(t, src), main.Data, main.Return, api.Verdict{})
	return main
}

func TestTypableSources(t *testing.T) { // 18.7, W5: any
	r := rand.New(rand.NewSource(187))
	high := 0
	for range 2500 {
		if s := wantTypable(t, sources.NewLively(r).Program(r.Intn(12))); s.Data > 3 && s.Return > 3 {
			high++
		}
	}
	others, refused := 0, 0
	for range 6000 {
		src := sources.New(r).Some()
		p, _, _ := tree.Parse(src)
		if e, _ := effect.Typable(p); e != fine {
			refused++
			continue
		}
		wantTypable(t, src)
		others++
	}
	if high < 300 || others < 1000 || refused < 1000 {
		t.Errorf("%d use both stacks, %d other programs, %d that are not typable", high, others, refused)
	}
	for _, src := range sources.Typable() {
		wantTypable(t, src)
	}
}

func TestShortSources(t *testing.T) { // 18.7, 18.4: all mains of three words; those that are typable are accepted, those that are accepted never fault
	const first = ": w drop 1 >r r> ; : never begin again ; 7 constant k\n"
	r := rand.New(rand.NewSource(188))
	typable := 0
	for _, body := range sources.Bodies(strings.Fields("pad drop dup >r r> i exit halt w never k"), 3, false) {
		src := first + ": main " + body + " ;"
		p, _, _ := tree.Parse(src)
		c := cartOf(t, src)
		data, ret, v := check.Depths(c)
		if e, _ := effect.Typable(p); e == fine {
			wantTypable(t, src)
			typable++
		}
		if v.Err == fine {
			begun(t, c, data, ret).steps(t, r, 40, 2)
		}
	}
	if typable < 200 {
		t.Errorf("%d are typable", typable)
	}
}

func TestAcceptedThoughNotTypable(t *testing.T) { // 18.1: the code alone is asked: a word behind halt is not led to
	for src, want := range map[string][2]int{": bad r> ; : main halt bad ;": {0, 0}, ": bad r> ; : main 1 begin yield again bad ;": {1, 0}} {
		p, _, _ := tree.Parse(src)
		if e, _ := effect.Typable(p); e != badReturn {
			t.Errorf("the tests' own %s: %d", src, e)
		}
		wantAccepted(t, src, cartOf(t, src), want[0], want[1])
	}
}

func TestTheCartridgeStays(t *testing.T) { // R3, R5: spare room too, and what lies there does not matter
	r := rand.New(rand.NewSource(189))
	for i := range 2000 {
		plain := anyCart(t, r)
		plain.Banks = anyBanks(r)
		if i%4 == 0 {
			plain = spoilt(r, plain)
		}
		if i%20 == 0 {
			plain.Banks = []api.Bank{{Num: 2, Data: []byte{1}}, {Num: 2}}
		}
		data, ret, want := check.Depths(plain)
		c := spare.Cart(plain)
		before := spare.WholeCart(c)
		hold(t, "with room behind the lists", c, data, ret, want)
		if !reflect.DeepEqual(spare.WholeCart(c), before) {
			t.Fatalf("R3: %v: the cartridge has changed", plain)
		}
		// It is not kept: another call does not see what becomes of it.
		spare.Over(c.Code, 99)
		spare.Over(c.Effects, api.Effect{At: 128, In: 9, Out: 9})
		hold(t, "with another one written over", plain, data, ret, want)
	}
}

func TestTheBytesStay(t *testing.T) { // R3, R5: spare room too, and what lies there does not matter
	r := rand.New(rand.NewSource(190))
	for range 2000 {
		c := anyCart(t, r)
		c.Banks = anyBanks(r)
		plain := image(t, c)
		if r.Intn(4) == 0 {
			plain[r.Intn(len(plain))] ^= 16
		}
		want := check.Bytes(plain)
		b := spare.Given(plain, 77)
		before := slices.Clone(b[:cap(b)])
		if v := check.Bytes(b); v != want || !bytes.Equal(b[:cap(b)], before) {
			t.Fatalf("R3: %v: %v, with room behind them %v", before, want, v)
		}
		spare.Over(b, 99)
		if v := check.Bytes(plain); v != want {
			t.Fatalf("R5: %v: %v, want %v", plain, v, want)
		}
	}
}

func TestEmptyListsAreOne(t *testing.T) { // R4
	wantRefused(t, "nil lists", api.Cart{Entry: 4}, badCall, 4)
	wantRefused(t, "empty lists", api.Cart{Code: []byte{}, Entry: 4, Effects: []api.Effect{}, Banks: []api.Bank{}}, badCall, 4)
	c := square(t)
	for _, effects := range [][]api.Effect{nil, {}} {
		wantRefused(t, "no effects", with(c, effects...), badEffect, 128)
	}
	c.Banks = []api.Bank{{Num: 1}, {Num: 2, Data: []byte{}}}
	wantAccepted(t, "empty banks", c, 2, 1)
}

func TestCallsDoNotHangOnOthers(t *testing.T) { // R5: whatever was asked ahead
	r := rand.New(rand.NewSource(191))
	var all []api.Cart
	var answers [][3]any
	ask := func(c api.Cart) [3]any {
		data, ret, v := check.Depths(c)
		return [3]any{data, ret, v}
	}
	for range 300 {
		c := anyCart(t, r)
		all, answers = append(all, c), append(answers, ask(c))
	}
	for i := len(all) - 1; i >= 0; i-- {
		if again := ask(all[i]); again != answers[i] || check.Check(all[i]) != answers[i][2] {
			t.Fatalf("R5: %v: %v, and at another time %v", all[i], answers[i], again)
		}
	}
}

func TestLargeCartridges(t *testing.T) { // R1: every call ends, in a time that the size bears
	var effects []api.Effect
	for at := range 8192 {
		effects = append(effects, api.Effect{At: uint16(2 * at)})
	}
	var banks []api.Bank
	for num := range 16 {
		banks = append(banks, api.Bank{Num: num, Data: make([]byte, 16384)})
	}
	full := append(carts.Threads(), 1)
	for len(full) < 8191 {
		full = append(full, 122, 26)
	}
	full = append(full[:8191], 16)
	wantAccepted(t, "one long word", api.Cart{Code: carts.Code(full...), Entry: 128, Effects: effects, Banks: banks}, 1, 0)
	// Many words, each of which main calls.
	const many = 2700
	cells := []uint16{1}
	for i := range many {
		cells = append(cells, uint16(128+2*(many+2)+4*i))
	}
	cells = append(cells, 16)
	for range many {
		cells = append(cells, 1, 16)
	}
	c := carts.Of(128, cells...)
	c.Effects, c.Banks = effects, banks
	wantAccepted(t, "many words", c, 0, 1)
	last := uint16(len(c.Code) - 4)
	c.Effects = slices.DeleteFunc(slices.Clone(effects), func(x api.Effect) bool { return x.At == last })
	wantRefused(t, "many words, the last without its effect", c, badEffect, last)
	// Every cell a call of the next but one: words within words.
	for i := range full {
		full[i] = uint16(2*i+4) % 16384
	}
	for _, entry := range []uint16{0, 2, 128, 16382} {
		c := api.Cart{Code: carts.Code(full...), Entry: entry, Effects: effects}
		data, ret, want := modelled(c)
		hold(t, "cells that lead to one another", c, data, ret, want)
		c.Code = bytes.Repeat([]byte{1, 0}, 8192)
		data, ret, want = modelled(c)
		hold(t, "code fields alone", c, data, ret, want)
	}
}
