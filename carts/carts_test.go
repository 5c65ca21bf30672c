package carts_test

import (
	"bytes"
	"math/rand"
	"testing"

	"wisp/api"
	"wisp/cart"
	"wisp/carts"
	"wisp/vm"
)

func TestLimits(t *testing.T) {
	for what, c := range carts.JustTaken() {
		if e := cart.Check(c); e != 0 {
			t.Errorf("%s: %d", what, e)
		}
	}
	for what, c := range carts.Refused() {
		if e := cart.Check(c); e != 74 {
			t.Errorf("%s: %d", what, e)
		}
	}
}

func TestOf(t *testing.T) {
	c := carts.Of(130, 1, 0x1234)
	if len(c.Code) != 132 || c.Entry != 130 || !bytes.Equal(c.Code[124:], []byte{62, 0, 63, 0, 1, 0, 0x34, 0x12}) || c.Code[0] != 0 || c.Code[2] != 1 {
		t.Errorf("%v", c)
	}
}

func TestAny(t *testing.T) { // all are cartridges, and many can be played, to ends of all sorts
	r := rand.New(rand.NewSource(1))
	ends := map[api.Fault]int{}
	for range 3000 {
		c := carts.Any(r)
		m, e := vm.New(c)
		if e != 0 {
			t.Fatalf("%v: %d", c, e)
		}
		o, _ := m.Frame(uint8(r.Intn(256)), 2000)
		ends[o.Fault]++
	}
	for fault := range api.Fault(8) {
		if ends[fault] < 5 {
			t.Errorf("%d end with the fault %d", ends[fault], fault)
		}
	}
}
