package state_test

import (
	"bytes"
	"encoding/binary"
	"hash/crc32"
	"math"
	"slices"
	"testing"

	"wisp/api"
	"wisp/cart"
	"wisp/console"
	"wisp/mem"
	"wisp/state"
	"wisp/vm"
)

// Errors, statuses and limits by the document's numbers, not by api's names: a slip in one of the two must show.
const (
	fine     = api.Errno(0)
	noHandle = api.Errno(1)
	badState = api.Errno(220)

	running, halted, faulted = 1, 2, 3

	leastBudget, mostBudget = 4, 16384
	mostCart                = 524288
	mostData, mostReturn    = 256, 128
	bankRoom, ramRoom       = 16384, 16384
	screenRoom              = 3072
	greatestCount           = 9223372036854775807
)

// A second reckoning of the chapter's calls, by other means than the program's.

// saved is all that a state tells; without a cartridge the budget alone.
type saved struct {
	budget int
	with   bool
	cart   []byte
	frames int
	state  vm.State
	image  mem.Image
}

// savedOf is what a console tells of itself.
func savedOf(c *console.Console) saved {
	m := c.Machine()
	if m == nil {
		return saved{budget: c.Budget()}
	}
	_, _, frames := c.Status()
	return saved{c.Budget(), true, c.Cart(), frames, m.State(), m.Memory().Image()}
}

func sameState(a, b vm.State) bool {
	return a.At == b.At && a.Status == b.Status && a.Fault == b.Fault && slices.Equal(a.Data, b.Data) && slices.Equal(a.Return, b.Return)
}

func sameImage(a, b mem.Image) bool {
	return slices.EqualFunc(a.Banks, b.Banks, func(x, y api.Bank) bool { return x.Num == y.Num && bytes.Equal(x.Data, y.Data) }) &&
		bytes.Equal(a.Ram, b.Ram) && bytes.Equal(a.Screen, b.Screen) &&
		a.Chosen == b.Chosen && a.Pad == b.Pad && a.Pitch == b.Pitch && a.Volume == b.Volume && a.Time == b.Time
}

func same(a, b saved) bool {
	return a.budget == b.budget && a.with == b.with && bytes.Equal(a.cart, b.cart) && a.frames == b.frames && sameState(a.state, b.state) && sameImage(a.image, b.image)
}

// restored is a console that stands so.
func (s saved) restored(t *testing.T) *console.Console {
	t.Helper()
	if !s.with {
		return made(t, s.budget)
	}
	c, e := console.Restore(s.budget, s.cart, s.frames, s.state, s.image)
	if e != fine {
		t.Fatalf("the tests' own console: %d", e)
	}
	return c
}

// machine is one that stands so, without a console.
func (s saved) machine(t *testing.T) *vm.Machine {
	t.Helper()
	inside, e := cart.Decode(s.cart)
	if e != fine {
		t.Fatalf("the tests' own image: %d", e)
	}
	m, e := vm.Restore(inside, s.state, s.image)
	if e != fine {
		t.Fatalf("the tests' own machine: %d", e)
	}
	return m
}

// sealed is bytes with their sum behind them.
func sealed(parts ...[]byte) []byte {
	b := slices.Concat(parts...)
	return binary.LittleEndian.AppendUint32(b, crc32.ChecksumIEEE(b))
}

func number(n int) []byte { return binary.AppendUvarint(nil, uint64(n)) }

func cell(x uint16) []byte { return []byte{byte(x % 256), byte(x / 256)} }

// list is bytes with their number ahead of them.
func list(b []byte) []byte { return append(number(len(b)), b...) }

// room is the list of the bytes up to the last one that is not 0.
func room(b []byte) []byte {
	n := 0
	for i, x := range b {
		if x != 0 {
			n = i + 1
		}
	}
	return list(b[:n])
}

// parts is a state's bytes ahead of the sum, piece by piece in their order, so that a piece can be spoilt.
type parts struct {
	begin, budget, with           []byte
	cart, frames                  []byte
	at, status, fault, data, ret  []byte
	banks                         [][]byte
	ram, screen                   []byte
	chosen, pad, pitch, vol, time []byte
}

// pieces are all of them, in their order.
func (p *parts) pieces() []*[]byte {
	all := []*[]byte{&p.begin, &p.budget, &p.with, &p.cart, &p.frames, &p.at, &p.status, &p.fault, &p.data, &p.ret}
	for i := range p.banks {
		all = append(all, &p.banks[i])
	}
	return append(all, &p.ram, &p.screen, &p.chosen, &p.pad, &p.pitch, &p.vol, &p.time)
}

func (p parts) bytes() []byte {
	var b []byte
	for _, x := range p.pieces() {
		b = append(b, *x...)
	}
	return sealed(b)
}

// cut leaves nothing behind that piece.
func (p *parts) cut(last *[]byte) {
	all := p.pieces()
	for _, x := range all[slices.Index(all, last)+1:] {
		*x = nil
	}
}

// parts says what Save answers.
func (s saved) parts() parts {
	p := parts{begin: []byte("WSAV\x01"), budget: number(s.budget), with: []byte{0}}
	if !s.with {
		return p
	}
	p.with, p.cart = []byte{1}, list(s.cart)
	p.frames = binary.LittleEndian.AppendUint64(nil, uint64(s.frames))
	p.at, p.status, p.fault = cell(s.state.At), []byte{byte(s.state.Status)}, []byte{byte(s.state.Fault)}
	p.data = number(len(s.state.Data))
	for _, x := range s.state.Data {
		p.data = append(p.data, cell(x)...)
	}
	p.ret = number(len(s.state.Return))
	for _, x := range s.state.Return {
		p.ret = append(append(p.ret, byte(x.Kind)), cell(x.Value)...)
	}
	for _, b := range s.image.Banks {
		p.banks = append(p.banks, room(b.Data))
	}
	p.ram, p.screen = room(s.image.Ram), room(s.image.Screen)
	p.chosen, p.pad, p.vol = []byte{s.image.Chosen}, []byte{s.image.Pad}, []byte{s.image.Volume}
	p.pitch, p.time = cell(s.image.Pitch), cell(s.image.Time)
	return p
}

// taker takes up numbers and bytes; once something is wrong, it stays wrong.
type taker struct {
	left  []byte
	wrong bool
}

func (k *taker) number() int {
	n, size := binary.Uvarint(k.left)
	if size <= 0 || n > math.MaxUint32 || len(binary.AppendUvarint(nil, n)) != size {
		k.wrong, k.left = true, nil
		return 0
	}
	k.left = k.left[size:]
	return int(n)
}

func (k *taker) bytes(n int) []byte {
	if n > len(k.left) {
		k.wrong, k.left = true, nil
		return nil
	}
	b := k.left[:n]
	k.left = k.left[n:]
	return b
}

// little is the number of the next n bytes, the lowest first.
func (k *taker) little(n int) uint64 {
	b := make([]byte, 8)
	copy(b, k.bytes(n))
	return binary.LittleEndian.Uint64(b)
}

// room is so many bytes that begin with a list that is as short as can be.
func (k *taker) room(size int) []byte {
	b := k.bytes(k.number())
	if len(b) > size || len(b) > 0 && b[len(b)-1] == 0 {
		k.wrong = true
		return nil
	}
	return append(slices.Clone(b), make([]byte, size-len(b))...)
}

// loadOf says what state Load answers a console of, by the rules that the chapter names, one by one; false, if it refuses.
func loadOf(b []byte) (saved, bool) {
	body, ok := bytes.CutPrefix(b, []byte("WSAV\x01"))
	if !ok || len(body) < 4 || !bytes.Equal(sealed(b[:len(b)-4]), b) {
		return saved{}, false
	}
	k := &taker{left: body[:len(body)-4]}
	s := saved{budget: k.number()}
	with := k.little(1)
	if k.wrong || with > 1 || s.budget < leastBudget || s.budget > mostBudget {
		return saved{}, false
	}
	if s.with = with == 1; s.with && !s.take(k) || k.wrong || len(k.left) > 0 {
		return saved{}, false
	}
	return s, true
}

// take takes up what stands behind the byte 1.
func (s *saved) take(k *taker) bool {
	s.cart = k.bytes(k.number())
	inside, e := cart.Decode(s.cart)
	frames := k.little(8)
	if e != fine || frames > greatestCount {
		return false
	}
	s.frames = int(frames)
	s.state = vm.State{At: uint16(k.little(2)), Status: api.Status(k.little(1)), Fault: api.Fault(k.little(1))}
	switch status, fault := s.state.Status, s.state.Fault; {
	case (status == running || status == halted) && fault == 0:
	case status == faulted && fault >= 1 && fault <= 7:
	default:
		return false
	}
	return s.takeStacks(k) && s.takeImage(k, inside)
}

func (s *saved) takeStacks(k *taker) bool {
	many := k.number()
	if many > mostData {
		return false
	}
	for range many {
		s.state.Data = append(s.state.Data, uint16(k.little(2)))
	}
	if many = k.number(); many > mostReturn {
		return false
	}
	for range many {
		kind := int(k.little(1))
		if kind < 1 || kind > 4 {
			return false
		}
		s.state.Return = append(s.state.Return, api.Cell{Kind: kind, Value: uint16(k.little(2))})
	}
	return true
}

func (s *saved) takeImage(k *taker, inside api.Cart) bool {
	for _, b := range inside.Banks {
		s.image.Banks = append(s.image.Banks, api.Bank{Num: b.Num, Data: k.room(bankRoom)})
	}
	s.image.Ram, s.image.Screen = k.room(ramRoom), k.room(screenRoom)
	s.image.Chosen, s.image.Pad, s.image.Pitch = byte(k.little(1)), byte(k.little(1)), uint16(k.little(2))
	s.image.Volume, s.image.Time = byte(k.little(1)), uint16(k.little(2))
	return !k.wrong && s.image.Chosen <= 15
}

// saveOf is what Save answers, which must be without an error.
func saveOf(t *testing.T, what string, c *console.Console) []byte {
	t.Helper()
	b, e := state.Save(c)
	if e != fine {
		t.Fatalf("22.1: %s: Save = %d", what, e)
	}
	return b
}

// loaded is what Load answers, which must be without an error.
func loaded(t *testing.T, what string, b []byte) *console.Console {
	t.Helper()
	c, e := state.Load(b)
	if e != fine || c == nil {
		t.Fatalf("22.2: %s: Load = %t, %d", what, c != nil, e)
	}
	return c
}

// shown is the beginning of bytes, for a message.
func shown(b []byte) []byte { return b[:min(len(b), 120)] }

// wantSave holds Save against the second reckoning.
func wantSave(t *testing.T, what string, c *console.Console) []byte {
	t.Helper()
	b := saveOf(t, what, c)
	if want := savedOf(c).parts().bytes(); !bytes.Equal(b, want) {
		t.Fatalf("22.1: %s: Save: %d bytes % x, want %d bytes % x", what, len(b), shown(b), len(want), shown(want))
	}
	return b
}

// wantNone asks that Load refuses bytes.
func wantNone(t *testing.T, what string, b []byte) {
	t.Helper()
	if c, e := state.Load(b); e != badState || c != nil {
		t.Errorf("22.2: Load of %s: %t, %d, want none, %d", what, c != nil, e, badState)
	}
}

// wantLoad holds Load against the second reckoning, and Save of what it answers against the bytes; it tells whether they are taken.
func wantLoad(t *testing.T, what string, b []byte) bool {
	t.Helper()
	want, ok := loadOf(b)
	if !ok {
		wantNone(t, what, b)
		return false
	}
	c := loaded(t, what, b)
	if got := savedOf(c); !same(got, want) {
		t.Fatalf("22.2: Load of %s: a console that stands elsewhere: budget %d, %d frames, %v, want %d, %d, %v", what, got.budget, got.frames, got.state, want.budget, want.frames, want.state)
	}
	if again := saveOf(t, what, c); !bytes.Equal(again, b) {
		t.Fatalf("22.4: Save of Load of %s: % x, want % x", what, shown(again), shown(b))
	}
	return true
}

// wantTaken asks so, and that they are taken.
func wantTaken(t *testing.T, what string, b []byte) {
	t.Helper()
	if !wantLoad(t, what, b) {
		t.Errorf("22.2: %s: refused, by the tests' reckoning too", what)
	}
}

// wantRefused asks so, and that they are refused by the second reckoning too.
func wantRefused(t *testing.T, what string, b []byte) {
	t.Helper()
	if wantLoad(t, what, b) {
		t.Errorf("22.2: %s: taken, by the tests' reckoning too", what)
	}
}
