package console_test

import (
	"bytes"
	"encoding/binary"
	"hash/crc32"
	"math/rand"
	"reflect"
	"slices"
	"testing"

	"wisp/api"
	"wisp/cart"
	"wisp/carts"
	"wisp/comp"
	"wisp/console"
	"wisp/infer"
	"wisp/mem"
	"wisp/sources"
	"wisp/vm"
)

// machineOf is a new machine of an image, made without a console.
func machineOf(t *testing.T, image []byte) *vm.Machine {
	t.Helper()
	inside, e := cart.Decode(image)
	if e != fine {
		t.Fatalf("the tests' own image: %d", e)
	}
	m, e := vm.New(inside)
	if e != fine {
		t.Fatalf("the tests' own image: %d", e)
	}
	return m
}

func sameState(a, b vm.State) bool {
	return a.At == b.At && a.Status == b.Status && a.Fault == b.Fault && slices.Equal(a.Data, b.Data) && slices.Equal(a.Return, b.Return)
}

func sameBanks(a, b []api.Bank) bool {
	return slices.EqualFunc(a, b, func(x, y api.Bank) bool { return x.Num == y.Num && bytes.Equal(x.Data, y.Data) })
}

func sameImage(a, b mem.Image) bool {
	if !sameBanks(a.Banks, b.Banks) || !bytes.Equal(a.Ram, b.Ram) || !bytes.Equal(a.Screen, b.Screen) {
		return false
	}
	a.Banks, a.Ram, a.Screen, b.Banks, b.Ram, b.Screen = nil, nil, nil, nil, nil, nil
	return reflect.DeepEqual(a, b)
}

// wantStands asks that a console's machine stands where that one stands.
func wantStands(t *testing.T, what string, c *console.Console, m *vm.Machine) {
	t.Helper()
	got := c.Machine()
	if got == nil || m == nil {
		t.Fatalf("%.200s: there is a machine: %t, want %t", what, got != nil, m != nil)
	}
	if !sameState(got.State(), m.State()) {
		t.Fatalf("%.200s: the machine stands %v, want %v", what, got.State(), m.State())
	}
	if !sameImage(got.Memory().Image(), m.Memory().Image()) || !slices.Equal(got.Memory().Tones(), m.Memory().Tones()) {
		t.Fatalf("%.200s: the machine has another memory", what)
	}
}

// resealed is an image with another byte, and the right sum.
func resealed(b []byte, at int, x byte) []byte {
	b = bytes.Clone(b[:len(b)-4])
	b[at] = x
	return binary.LittleEndian.AppendUint32(b, crc32.ChecksumIEEE(b))
}

// oddCode is an image in order, but for its code of one byte.
func oddCode() []byte {
	b := []byte("WISP\x01\x02\x00\x00\x01\x00\x1c\x00\x00\x00\x01\x00\x00\x00\x02\x00\x1d\x00\x00\x00\x00\x00\x00\x00\x07")
	return binary.LittleEndian.AppendUint32(b, crc32.ChecksumIEEE(b))
}

// anySource is one that is well formed, of any sort.
func anySource(r *rand.Rand) string {
	return sources.Any(r, func(src string) bool {
		_, e := comp.Well(src)
		return e == fine
	})
}

// anyCart is of all sorts, with the effects that its words have, for the most part, and with banks.
func anyCart(t *testing.T, r *rand.Rand) api.Cart {
	t.Helper()
	c := carts.Any(r)
	if r.Intn(3) > 0 {
		c, _ = cart.Decode(imageOf(t, anySource(r)))
		c = carts.Changed(r, c, r.Intn(3))
	}
	if shapes, v := infer.Shapes(c); v.Err == fine && r.Intn(8) > 0 {
		c = carts.Declared(c, shapes)
	}
	if len(c.Banks) == 0 && r.Intn(3) == 0 {
		c.Banks = []api.Bank{{Num: r.Intn(4), Data: []byte{1, 2, byte(r.Intn(256))}}, {Num: 4 + r.Intn(12)}}
	}
	return c
}

func anyPads(r *rand.Rand, many int) []uint8 {
	pads := make([]uint8, many)
	r.Read(pads)
	return pads
}
