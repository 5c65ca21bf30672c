package carts_test

import (
	"bytes"
	"math/rand"
	"slices"
	"testing"

	"wisp/api"
	"wisp/cart"
	"wisp/carts"
	"wisp/vm"
)

func TestLimits(t *testing.T) {
	for what, c := range carts.JustTaken() {
		if e := cart.Check(c); e != 0 {
			t.Errorf("%s: %d", what, e)
		}
	}
	for what, c := range carts.Refused() {
		if e := cart.Check(c); e != 74 {
			t.Errorf("%s: %d", what, e)
		}
	}
}

func TestOf(t *testing.T) {
	c := carts.Of(130, 1, 0x1234)
	if len(c.Code) != 132 || c.Entry != 130 || !bytes.Equal(c.Code[124:], []byte{62, 0, 63, 0, 1, 0, 0x34, 0x12}) || c.Code[0] != 0 || c.Code[2] != 1 {
		t.Errorf("%v", c)
	}
}

func TestAny(t *testing.T) { // all are cartridges, and many can be played, to ends of all sorts
	r := rand.New(rand.NewSource(1))
	ends := map[api.Fault]int{}
	for range 3000 {
		c := carts.Any(r)
		m, e := vm.New(c)
		if e != 0 {
			t.Fatalf("%v: %d", c, e)
		}
		o, _ := m.Frame(uint8(r.Intn(256)), 2000)
		ends[o.Fault]++
	}
	for fault := range api.Fault(8) {
		if ends[fault] < 5 {
			t.Errorf("%d end with the fault %d", ends[fault], fault)
		}
	}
}

func TestChanged(t *testing.T) { // the threads and the cartridge that was handed in stay
	r := rand.New(rand.NewSource(2))
	c := carts.Of(128, 1, 0x1234, 0x1234, 0x1234)
	differ := 0
	for many := range 40 {
		x := carts.Changed(r, c, many)
		if !bytes.Equal(c.Code, carts.Of(128, 1, 0x1234, 0x1234, 0x1234).Code) || !bytes.Equal(x.Code[:128], c.Code[:128]) || x.Entry != 128 || len(x.Code) != len(c.Code) {
			t.Fatalf("%v: %v", c, x)
		}
		if !bytes.Equal(x.Code, c.Code) {
			differ++
		}
	}
	if differ < 30 || !bytes.Equal(carts.Changed(r, c, 0).Code, c.Code) {
		t.Errorf("%d of 40 differ", differ)
	}
}

func TestDeclared(t *testing.T) { // the effects that there were are gone, in what is told alone
	c := carts.Of(128, 1, 16)
	c.Effects = []api.Effect{{At: 2, In: 1}}
	x := carts.Declared(c, map[uint16]api.Shape{140: {In: 3}, 128: {Out: 1, Data: 7, Return: 8}, 130: {In: 1, Out: 2, Never: true}})
	if want := []api.Effect{{At: 128, Out: 1}, {At: 130, In: 1, Out: 2}, {At: 140, In: 3}}; !slices.Equal(x.Effects, want) || x.Entry != 128 || !bytes.Equal(x.Code, c.Code) {
		t.Errorf("%v, want the effects %v", x, want)
	}
	if !slices.Equal(c.Effects, []api.Effect{{At: 2, In: 1}}) || len(carts.Declared(c, nil).Effects) > 0 {
		t.Errorf("%v", c)
	}
}

func TestBudget(t *testing.T) { // all may be, small ones and great ones
	r := rand.New(rand.NewSource(3))
	least, greatest := 16384, 4
	for range 200000 {
		x := carts.Budget(r)
		least, greatest = min(least, x), max(greatest, x)
	}
	if least != 4 || greatest > 16384 || greatest < 16000 {
		t.Errorf("%d to %d", least, greatest)
	}
}
