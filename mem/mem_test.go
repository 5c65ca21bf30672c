package mem_test

import (
	"bytes"
	"fmt"
	"math"
	"math/rand"
	"reflect"
	"slices"
	"testing"

	"wisp/api"
	"wisp/mem"
)

// The errors and sizes by the document's numbers, not by api's names: a slip in one of the two must show.
const (
	fine     = api.Errno(0)
	badInput = api.Errno(2)

	bankSize   = 16384
	ramSize    = 16384
	screenSize = 3072
)

// model says DOC.md's table of the address space as it stands there, one byte a cell of a flat list.
type model struct {
	banks  [16][]byte // nil: there is no such bank
	flat   [65536]byte
	cycle  int
	tones  []api.Tone
	chosen int
}

func newModel(banks ...api.Bank) *model {
	o := &model{}
	for _, b := range banks {
		o.banks[b.Num] = append(append([]byte{}, b.Data...), make([]byte, bankSize-len(b.Data))...)
	}
	return o
}

func (o *model) load(at int) byte {
	if at >= 0x4000 && at <= 0x7fff {
		if o.banks[o.chosen] == nil {
			return 0
		}
		return o.banks[o.chosen][at-0x4000]
	}
	if at == 0xff00 {
		return byte(o.chosen)
	}
	return o.flat[at]
}

func (o *model) store(at int, x byte) {
	switch {
	case at >= 0x4000 && at <= 0x7fff:
		if o.banks[o.chosen] != nil {
			o.banks[o.chosen][at-0x4000] = x
		}
	case at >= 0x8000 && at <= 0xbfff, at >= 0xc000 && at <= 0xcbff, at == 0xff04, at == 0xff05:
		o.flat[at] = x
	case at == 0xff00:
		o.chosen = int(x & 0x0f)
	case at == 0xff06:
		o.flat[at] = x
		o.tones = append(o.tones, api.Tone{Cycle: o.cycle, Pitch: uint16(o.flat[0xff04]) + 256*uint16(o.flat[0xff05]), Volume: x})
	}
}

func (o *model) begin(pad byte) {
	o.flat[0xff02] = pad
	o.flat[0xff08]++
	if o.flat[0xff08] == 0 {
		o.flat[0xff09]++
	}
	o.tones, o.cycle = nil, 0
}

func (o *model) image() mem.Image {
	x := mem.Image{
		Ram:    bytes.Clone(o.flat[0x8000:0xc000]),
		Screen: bytes.Clone(o.flat[0xc000:0xcc00]),
		Chosen: uint8(o.chosen),
		Pad:    o.flat[0xff02],
		Pitch:  uint16(o.flat[0xff04]) + 256*uint16(o.flat[0xff05]),
		Volume: o.flat[0xff06],
		Time:   uint16(o.flat[0xff08]) + 256*uint16(o.flat[0xff09]),
	}
	for n, b := range o.banks {
		if b != nil {
			x.Banks = append(x.Banks, api.Bank{Num: n, Data: bytes.Clone(b)})
		}
	}
	return x
}

// same holds all that can be asked of a memory against the model.
func (o *model) same(t *testing.T, m *mem.Memory, what string) {
	t.Helper()
	for at := range 65536 {
		if got, want := m.Load(uint16(at)), o.load(at); got != want {
			t.Fatalf("%s: Load(%04x) = %d, want %d", what, at, got, want)
		}
	}
	sameImage(t, m.Image(), o.image(), what)
	sameTones(t, m, what, o.tones...)
	if got := m.Screen(); !bytes.Equal(got, o.flat[0xc000:0xcc00]) {
		t.Fatalf("%s: Screen is not what was written", what)
	}
	if got, want := m.Pad(), o.flat[0xff02]; got != want {
		t.Fatalf("%s: Pad() = %d, want %d", what, got, want)
	}
}

func sameImage(t *testing.T, got, want mem.Image, what string) {
	t.Helper()
	if len(got.Banks) != len(want.Banks) {
		t.Fatalf("%s: Image has %d banks, want %d", what, len(got.Banks), len(want.Banks))
	}
	for i, b := range got.Banks {
		if b.Num != want.Banks[i].Num || !bytes.Equal(b.Data, want.Banks[i].Data) {
			t.Fatalf("%s: Image: bank %d (of %d bytes) is not bank %d", what, b.Num, len(b.Data), want.Banks[i].Num)
		}
	}
	if !bytes.Equal(got.Ram, want.Ram) || !bytes.Equal(got.Screen, want.Screen) {
		t.Fatalf("%s: Image: Ram or Screen is not what was written", what)
	}
	got.Banks, got.Ram, got.Screen = nil, nil, nil
	want.Banks, want.Ram, want.Screen = nil, nil, nil
	if !reflect.DeepEqual(got, want) {
		t.Fatalf("%s: Image = %v, want %v", what, got, want)
	}
}

func sameTones(t *testing.T, m *mem.Memory, what string, want ...api.Tone) {
	t.Helper()
	if got := m.Tones(); !slices.Equal(got, want) {
		t.Fatalf("%s: Tones() = %v, want %v", what, got, want)
	}
}

func loads(t *testing.T, m *mem.Memory, at uint16, want uint8) {
	t.Helper()
	if got := m.Load(at); got != want {
		t.Errorf("Load(%04x) = %d, want %d", at, got, want)
	}
}

func cells(t *testing.T, m *mem.Memory, at, want uint16) {
	t.Helper()
	if got := m.Cell(at); got != want {
		t.Errorf("Cell(%04x) = %04x, want %04x", at, got, want)
	}
}

func tone(cycle int, pitch uint16, volume uint8) api.Tone {
	return api.Tone{Cycle: cycle, Pitch: pitch, Volume: volume}
}

func bank(num int, data ...byte) api.Bank { return api.Bank{Num: num, Data: data} }

func made(t *testing.T, banks ...api.Bank) *mem.Memory {
	t.Helper()
	m, e := mem.New(banks...)
	if m == nil || e != fine {
		t.Fatalf("New of %d banks = %v, %d", len(banks), m != nil, e)
	}
	return m
}

func restored(t *testing.T, x mem.Image) *mem.Memory {
	t.Helper()
	m, e := mem.Restore(x)
	if m == nil || e != fine {
		t.Fatalf("Restore = %v, %d", m != nil, e)
	}
	return m
}

// filled tells that many bytes, none of them 0.
func filled(many int, x byte) []byte { return bytes.Repeat([]byte{x}, many) }

// lived tells a memory with two banks in which nothing is 0, cycle and tones too, and the model of it.
func lived(t *testing.T) (*mem.Memory, *model) {
	t.Helper()
	banks := []api.Bank{bank(2, 21, 22), {Num: 9, Data: filled(bankSize, 91)}}
	m, o := made(t, banks...), newModel(banks...)
	for range 259 {
		m.Begin(77)
		o.begin(77)
	}
	m.At(31)
	o.cycle = 31
	for at := range 65536 {
		if at != 0xff00 {
			m.Store(uint16(at), byte(1+at%255))
			o.store(at, byte(1+at%255))
		}
	}
	m.Choose(9)
	o.store(0xff00, 9)
	o.same(t, m, "a memory that has lived")
	return m, o
}

func TestExample1(t *testing.T) { // 4.1, 4.2
	m := made(t)
	for at := range 65536 {
		loads(t, m, uint16(at), 0)
	}
	m.Store(0x8000, 7)
	m.SetCell(0x8001, 0x1234)
	loads(t, m, 0x8000, 7)
	cells(t, m, 0x8001, 0x1234)
	loads(t, m, 0x8001, 0x34)
	m.SetCell(0xbfff, 0x0102)
	loads(t, m, 0xbfff, 2)
	loads(t, m, 0xc000, 1)
	before := m.Image()
	m.SetCell(0xffff, 0x0102)
	sameImage(t, m.Image(), before, "SetCell(ffff)")
	loads(t, m, 0xffff, 0)
	loads(t, m, 0x0000, 0)
}

func TestExample2(t *testing.T) { // 4.1, 4.2, 4.4
	m := made(t, bank(3, 9, 8))
	loads(t, m, 0x4000, 0)
	m.Store(0xff00, 53)
	loads(t, m, 0xff00, 5)
	m.Choose(3)
	loads(t, m, 0x4000, 9)
	loads(t, m, 0x4001, 8)
	loads(t, m, 0x4002, 0)
	m.Store(0x4000, 1)
	loads(t, m, 0x4000, 1)
	m.Choose(0)
	m.Store(0x4000, 7)
	loads(t, m, 0x4000, 0)
}

func TestExample3(t *testing.T) { // 4.2, 4.3, 4.4
	m := made(t)
	m.Begin(5)
	loads(t, m, 0xff02, 5)
	cells(t, m, 0xff08, 1)
	m.Store(0xff02, 9)
	loads(t, m, 0xff02, 5)
	m.At(12)
	m.SetCell(0xff05, 0x0102)
	loads(t, m, 0xff05, 2)
	sameTones(t, m, "SetCell(ff05)", tone(12, 512, 1))
	m.Play(440, 9)
	sameTones(t, m, "Play", tone(12, 512, 1), tone(12, 440, 9))
	m.Begin(0)
	sameTones(t, m, "Begin")
	loads(t, m, 0xff06, 9)
}

func TestExample4(t *testing.T) { // 4.4
	m := made(t)
	m.Plot(63, 47, 300)
	loads(t, m, 0xcbff, 44)
	before := m.Image()
	m.Plot(64, 0, 1)
	sameImage(t, m.Image(), before, "Plot(64, 0)")
}

func TestNewOfWhatMayNotBe(t *testing.T) { // 4.1 and example 5; R2
	for _, banks := range [][]api.Bank{
		{bank(1, 5), bank(1, 6)}, {bank(1), bank(1)}, {bank(0), bank(0)}, {bank(15), bank(15)},
		{bank(16, 1)}, {bank(16)}, {bank(17)}, {bank(31)}, {bank(32)}, {bank(256 + 3)}, {bank(65536 + 3)}, {bank(1<<32 + 3)}, {bank(math.MaxInt)},
		{bank(-1)}, {bank(-1, 1)}, {bank(-13)}, {bank(-256)}, {bank(math.MinInt)},
		{bank(2), bank(1)}, {bank(15), bank(0)}, {bank(0), bank(2), bank(1)}, {bank(0), bank(1), bank(0)}, {bank(3), bank(4), bank(4)},
		{bank(-2), bank(-1)}, {bank(-1), bank(0)}, {bank(0), bank(15), bank(16)}, {bank(0), bank(-1)},
		{{Num: 2, Data: make([]byte, 16385)}}, {{Num: 0, Data: make([]byte, 16385)}}, {{Num: 15, Data: make([]byte, 32768)}},
		{bank(0), {Num: 1, Data: make([]byte, 16385)}}, {{Num: 0, Data: make([]byte, 16385)}, bank(1)},
	} {
		if m, e := mem.New(banks...); m != nil || e != badInput {
			t.Errorf("New(%s) = %v, %d", told(banks), m != nil, e)
		}
	}
}

// told tells banks without their bytes.
func told(banks []api.Bank) string {
	var s string
	for _, b := range banks {
		s += fmt.Sprintf("{%d, %d bytes}", b.Num, len(b.Data))
	}
	return s
}

func TestNewOfBanks(t *testing.T) { // 4.1: no bank, one, all; each number of bytes; zeros behind them; all else 0
	var all, some []api.Bank
	for n := range 16 {
		all = append(all, api.Bank{Num: n, Data: filled(n*1000, byte(n+1))})
		if n%3 == 1 {
			some = append(some, all[n])
		}
	}
	lists := [][]api.Bank{nil, {}, all, some}
	for n := range 16 {
		lists = append(lists, []api.Bank{bank(n, 6, 5)})
	}
	for _, many := range []int{0, 1, 2, 16383, 16384} {
		lists = append(lists, []api.Bank{{Num: 7, Data: filled(many, 3)}}, []api.Bank{bank(0, 1), {Num: 15, Data: filled(many, 3)}})
	}
	for _, banks := range lists {
		m, o := made(t, banks...), newModel(banks...)
		o.same(t, m, "New("+told(banks)+")")
		for n := range 16 {
			m.Choose(uint16(n))
			o.store(0xff00, byte(n))
			for at := 0x3ffe; at < 0x8002; at++ {
				if got, want := m.Load(uint16(at)), o.load(at); got != want {
					t.Fatalf("New(%s), bank %d: Load(%04x) = %d, want %d", told(banks), n, at, got, want)
				}
			}
		}
	}
}

// places are the first and the last address of each stretch of DOC.md's table, and those beside them.
var places = []int{
	0x0000, 0x0001, 0x2000, 0x3ffe, 0x3fff,
	0x4000, 0x4001, 0x6000, 0x7ffe, 0x7fff,
	0x8000, 0x8001, 0x9fff, 0xa000, 0xbffe, 0xbfff,
	0xc000, 0xc001, 0xc03f, 0xc040, 0xcbfe, 0xcbff,
	0xcc00, 0xcc01, 0xcfff, 0xd000, 0xe000, 0xfefe, 0xfeff,
	0xff00, 0xff01, 0xff02, 0xff03, 0xff04, 0xff05, 0xff06, 0xff07, 0xff08, 0xff09, 0xff0a, 0xff0b,
	0xff10, 0xff80, 0xfffe, 0xffff,
}

func TestStoreAtEachPlace(t *testing.T) { // 4.2, 4.8, 4.10: just what the table says is changed
	for _, at := range places {
		for _, x := range []byte{0, 1, 9, 15, 16, 127, 128, 255} {
			m, o := made(t, bank(0, 1, 2), bank(9, 3, 4)), newModel(bank(0, 1, 2), bank(9, 3, 4))
			m.Begin(66)
			o.begin(66)
			m.At(5)
			o.cycle = 5
			m.Store(uint16(at), x)
			o.store(at, x)
			o.same(t, m, fmt.Sprintf("Store(%04x, %d)", at, x))
		}
	}
}

func TestStoreWhereAllIsWritten(t *testing.T) { // 4.2, 4.8, 4.10: the same in a memory in which nothing is 0
	for _, at := range places {
		m, o := lived(t)
		m.Store(uint16(at), 200)
		o.store(at, 200)
		o.same(t, m, fmt.Sprintf("Store(%04x, 200)", at))
	}
}

func TestCellsAtEachPlace(t *testing.T) { // 4.2: the low byte there, then the high byte behind it; behind 65535 is 0
	for _, at := range places {
		for _, x := range []uint16{0, 0x0102, 0x09fe, 0xfe09, 0x8000, 0x00ff, 0xff00, 0xffff} {
			m, o := made(t, bank(0, 1, 2), bank(9, 3, 4)), newModel(bank(0, 1, 2), bank(9, 3, 4))
			m.SetCell(uint16(at), x)
			o.store(at, byte(x&255))
			o.store((at+1)%65536, byte(x>>8))
			o.same(t, m, fmt.Sprintf("SetCell(%04x, %04x)", at, x))
			for _, at := range places {
				cells(t, m, uint16(at), uint16(o.load(at))+256*uint16(o.load((at+1)%65536)))
			}
		}
	}
}

func TestCellOfAllAddresses(t *testing.T) { // 4.2
	m, o := lived(t)
	for at := range 65536 {
		cells(t, m, uint16(at), uint16(o.load(at))+256*uint16(o.load((at+1)%65536)))
	}
}

func TestSetCellWritesTheLowByteFirst(t *testing.T) { // 4.2: where the order shows
	m := made(t, bank(2, 7))
	m.SetCell(0xff05, 0x0903) // the pitch's high byte, and then the tone
	sameTones(t, m, "SetCell(ff05)", tone(0, 0x0300, 9))
	m.SetCell(0xff06, 0x0104)
	sameTones(t, m, "SetCell(ff06)", tone(0, 0x0300, 9), tone(0, 0x0300, 4))
	m.SetCell(0xfeff, 0x0200) // what is chosen by the high byte
	loads(t, m, 0x4000, 7)
}

func TestWindow(t *testing.T) { // 4.2, 4.8: what is written stays in the bank that is chosen
	m := made(t, bank(1, 11), bank(14, 12))
	loads(t, m, 0x4000, 0)
	m.Store(0x4000, 1) // bank 0 is not there
	loads(t, m, 0x4000, 0)
	m.Choose(1)
	loads(t, m, 0x4000, 11)
	m.Store(0x4000, 100)
	m.Store(0x7fff, 101)
	m.Choose(14)
	loads(t, m, 0x4000, 12)
	loads(t, m, 0x7fff, 0)
	m.SetCell(0x7ffe, 0x6766)
	m.Choose(2)
	for _, at := range []uint16{0x4000, 0x7ffe, 0x7fff} {
		loads(t, m, at, 0)
		m.Store(at, 55)
		loads(t, m, at, 0)
	}
	m.Choose(1)
	loads(t, m, 0x4000, 100)
	loads(t, m, 0x7ffe, 0)
	loads(t, m, 0x7fff, 101)
	m.Choose(14)
	loads(t, m, 0x4000, 12)
	cells(t, m, 0x7ffe, 0x6766)
	if n := len(m.Image().Banks); n != 2 {
		t.Errorf("writes to banks that are not there: Image has %d banks, want 2", n)
	}
}

func TestChoose(t *testing.T) { // 4.4 and the table: the low byte to the port, of which four bits count
	var all []api.Bank
	for n := range 16 {
		all = append(all, bank(n, byte(100+n)))
	}
	m := made(t, all...)
	for n := range 65536 {
		m.Choose(uint16(n))
		loads(t, m, 0xff00, byte(n%16))
		loads(t, m, 0x4000, byte(100+n%16))
	}
	for x := range 256 {
		m.Store(0xff00, byte(x))
		loads(t, m, 0xff00, byte(x%16))
		loads(t, m, 0x4000, byte(100+x%16))
		if got := m.Image().Chosen; got != byte(x%16) {
			t.Errorf("Store(ff00, %d): Chosen = %d", x, got)
		}
	}
	m.SetCell(0xff00, 0x0703)
	cells(t, m, 0xff00, 3)
}

func TestPitch(t *testing.T) { // the ports ff04 and ff05: each byte alone, and no tone of it
	m := made(t)
	m.Store(0xff04, 0x34)
	cells(t, m, 0xff04, 0x0034)
	m.Store(0xff05, 0x12)
	cells(t, m, 0xff04, 0x1234)
	m.Store(0xff04, 0xff)
	cells(t, m, 0xff04, 0x12ff)
	m.Store(0xff05, 0)
	cells(t, m, 0xff04, 0x00ff)
	m.SetCell(0xff04, 0xfedc)
	loads(t, m, 0xff04, 0xdc)
	loads(t, m, 0xff05, 0xfe)
	if got := m.Image().Pitch; got != 0xfedc {
		t.Errorf("Pitch = %04x, want fedc", got)
	}
	loads(t, m, 0xff06, 0)
	sameTones(t, m, "writes to the pitch")
}

func TestTones(t *testing.T) { // 4.3, 4.4: of each write to ff06 and of no other, with cycle, pitch and volume as they are then
	m := made(t)
	m.Store(0xff06, 3) // ahead of any frame
	sameTones(t, m, "one tone", tone(0, 0, 3))
	m.At(7)
	m.Store(0xff06, 3) // the same volume: a tone all the same
	m.Store(0xff06, 0) // volume 0: a tone all the same
	m.At(-1)
	m.Play(65535, 255)
	m.At(math.MaxInt)
	m.SetCell(0xff04, 0x0201)
	m.Store(0xff06, 128)
	m.At(math.MinInt)
	m.Play(0, 0)
	want := []api.Tone{tone(0, 0, 3), tone(7, 0, 3), tone(7, 0, 0), tone(-1, 65535, 255), tone(math.MaxInt, 0x0201, 128), tone(math.MinInt, 0, 0)}
	sameTones(t, m, "six tones", want...)
	for at := range 65536 {
		if at != 0xff06 {
			m.Store(uint16(at), 9)
		}
	}
	m.Choose(3)
	m.Plot(1, 1, 1)
	m.At(2)
	_, _, _ = m.Load(0xff06), m.Cell(0xff06), m.Cell(0xff05)
	sameTones(t, m, "other writes, and readings", want...)
	loads(t, m, 0xff06, 0)
}

func TestManyTones(t *testing.T) { // 4.3: each stands behind those that there are, however many
	m := made(t)
	var want []api.Tone
	for i := range 5000 {
		m.At(i)
		m.Play(uint16(i*7), uint8(i))
		want = append(want, api.Tone{Cycle: i, Pitch: uint16(i * 7), Volume: uint8(i)})
	}
	sameTones(t, m, "5000 tones", want...)
}

func TestPlay(t *testing.T) { // 4.4: the pitch, then the volume; both stay in the ports
	m := made(t)
	m.Play(0x1234, 0x56)
	cells(t, m, 0xff04, 0x1234)
	loads(t, m, 0xff06, 0x56)
	loads(t, m, 0xff07, 0)
	sameTones(t, m, "Play", tone(0, 0x1234, 0x56))
	if x := m.Image(); x.Pitch != 0x1234 || x.Volume != 0x56 {
		t.Errorf("Play(1234, 56): Image has pitch %04x and volume %02x", x.Pitch, x.Volume)
	}
}

func TestBegin(t *testing.T) { // 4.3: gamepad, time, no tones, cycle 0; all else stays
	m, o := lived(t)
	m.At(12)
	m.Play(440, 9)
	o.cycle = 12
	o.store(0xff04, 440%256)
	o.store(0xff05, 440/256)
	o.store(0xff06, 9)
	o.same(t, m, "ahead of Begin")
	for _, pad := range []byte{0, 1, 5, 255, 128} {
		m.Begin(pad)
		o.begin(pad)
		o.same(t, m, "Begin")
		m.Store(0xff06, 8) // the cycle is 0 again
		o.store(0xff06, 8)
		o.same(t, m, "a tone behind Begin")
		m.At(99)
		o.cycle = 99
	}
}

func TestTime(t *testing.T) { // 4.3: all frames till 65535, and 0 behind it
	m := made(t)
	for i := range 65536 + 3 {
		cells(t, m, 0xff08, uint16(i%65536))
		m.Begin(0)
	}
	m = restored(t, mem.Image{Ram: make([]byte, ramSize), Screen: make([]byte, screenSize), Time: 65535})
	cells(t, m, 0xff08, 65535)
	m.Begin(1)
	cells(t, m, 0xff08, 0)
	if x := m.Image(); x.Time != 0 {
		t.Errorf("Time behind 65535 = %d, want 0", x.Time)
	}
}

func TestPad(t *testing.T) { // 4.4
	m := made(t)
	for pad := range 256 {
		m.Begin(byte(pad))
		if got := m.Pad(); got != byte(pad) {
			t.Errorf("Begin(%d): Pad() = %d", pad, got)
		}
		loads(t, m, 0xff02, byte(pad))
	}
}

func TestPlotInside(t *testing.T) { // 4.4: each pixel, just it
	for y := range 48 {
		for x := range 64 {
			m := made(t)
			m.Plot(uint16(x), uint16(y), 7)
			loads(t, m, uint16(0xc000+64*y+x), 7)
			if s := m.Screen(); s[64*y+x] != 7 || bytes.Count(s, []byte{0}) != screenSize-1 {
				t.Fatalf("Plot(%d, %d) set another pixel", x, y)
			}
		}
	}
}

func TestPlotOutside(t *testing.T) { // 4.4: on each side, and where the address would wrap round to the screen
	m, o := lived(t)
	edges := []uint16{0, 1, 47, 48, 49, 63, 64, 65, 127, 128, 255, 256, 1023, 1024, 1071, 32767, 32768, 65472, 65535}
	for _, x := range edges {
		for _, y := range edges {
			if x < 64 && y < 48 {
				continue
			}
			m.Plot(x, y, 1)
			if !bytes.Equal(m.Screen(), o.flat[0xc000:0xcc00]) {
				t.Fatalf("Plot(%d, %d) set a pixel", x, y)
			}
		}
	}
	o.same(t, m, "Plot beyond the screen")
}

func TestPlotColours(t *testing.T) { // 4.4: the low byte
	m := made(t)
	for c := range 65536 {
		m.Plot(5, 2, uint16(c))
		loads(t, m, 0xc000+64*2+5, byte(c%256))
	}
}

func TestEachByteIsItsOwn(t *testing.T) { // 4.8: all addresses of window, variables and screen, in any order
	random := rand.New(rand.NewSource(4))
	m := made(t, bank(4), bank(5))
	for round := range 2 {
		want := make([]byte, 65536)
		for _, at := range random.Perm(65536) {
			if at >= 0x4000 && at < 0xcc00 {
				want[at] = byte(random.Intn(256))
				m.Choose(uint16(4 + round))
				m.Store(uint16(at), want[at])
			}
		}
		for at := 0x4000; at < 0xcc00; at++ {
			loads(t, m, uint16(at), want[at])
		}
	}
}

func TestNoWriteIsSeenThere(t *testing.T) { // 4.10: nor the gamepad, nor the time, however often
	m := made(t, bank(0))
	for range 300 {
		m.Begin(99)
	}
	for at := range 65536 {
		m.Store(uint16(at), 255)
		m.SetCell(uint16(at), 0x5aa5)
		if at%256 == 0 {
			untouched(t, m)
		}
	}
	untouched(t, m)
}

func untouched(t *testing.T, m *mem.Memory) {
	t.Helper()
	for at := range 0x4000 {
		loads(t, m, uint16(at), 0)
	}
	for at := 0xcc00; at < 0xff00; at++ {
		loads(t, m, uint16(at), 0)
	}
	loads(t, m, 0xff02, 99)
	cells(t, m, 0xff08, 300)
	if x := m.Image(); m.Pad() != 99 || x.Pad != 99 || x.Time != 300 {
		t.Fatalf("a write changed the gamepad (%d) or the time (%d)", x.Pad, x.Time)
	}
}

// over writes over a list, spare room too.
func over[T any](list []T, x T) {
	list = list[:cap(list)]
	for i := range list {
		list[i] = x
	}
}

func TestAnswersAreNew(t *testing.T) { // 4.5, R3: what is written over them is not seen
	m, o := lived(t)
	m.Play(3, 4)
	o.store(0xff04, 3)
	o.store(0xff05, 0)
	o.store(0xff06, 4)
	for range 2 {
		over(m.Screen(), 222)
		o.same(t, m, "Screen written over")
		over(m.Tones(), tone(222, 222, 222))
		o.same(t, m, "Tones written over")
		x := m.Image()
		over(x.Ram, 222)
		over(x.Screen, 222)
		for _, b := range x.Banks {
			over(b.Data, 222)
		}
		over(x.Banks, bank(13, 1, 2, 3))
		o.same(t, m, "Image written over")
	}
}

func TestListsOfAnImageAreApart(t *testing.T) { // R3: no two of them share memory, spare room too
	x := made(t, bank(0), bank(1), bank(15)).Image()
	lists := [][]byte{x.Ram, x.Screen, x.Banks[0].Data, x.Banks[1].Data, x.Banks[2].Data}
	for i := range lists {
		over(lists[i], 222)
		for j := range lists {
			if j > i && bytes.Contains(lists[j], []byte{222}) {
				t.Errorf("the lists %d and %d of one Image share memory", i, j)
			}
		}
	}
}

func TestAnswersStay(t *testing.T) { // 4.5, R3: what was answered does not follow later writes
	m, o := lived(t)
	screen, tones, image := m.Screen(), m.Tones(), m.Image()
	wantScreen, wantTones, wantImage := bytes.Clone(screen), slices.Clone(tones), o.image()
	for at := range 65536 {
		m.Store(uint16(at), 222)
	}
	m.Play(1, 1)
	m.Begin(3)
	m.Play(2, 2)
	m.Play(3, 3)
	if !bytes.Equal(screen, wantScreen) || !slices.Equal(tones, wantTones) {
		t.Error("Screen or Tones follow what is written later")
	}
	sameImage(t, image, wantImage, "an Image behind later writes")
}

func TestImage(t *testing.T) { // 4.5: each part by itself; banks rising, whole
	m := made(t, bank(0, 1), bank(7), api.Bank{Num: 15, Data: filled(bankSize, 9)})
	m.Begin(200)
	m.Begin(201)
	m.Store(0x8000, 1)
	m.Store(0xbfff, 2)
	m.Store(0xc000, 3)
	m.Store(0xcbff, 4)
	m.Choose(14)
	m.At(5)
	m.Play(0x0102, 6)
	x := m.Image()
	if len(x.Banks) != 3 || x.Banks[0].Num != 0 || x.Banks[1].Num != 7 || x.Banks[2].Num != 15 {
		t.Fatalf("Image: banks %s", told(x.Banks))
	}
	for _, b := range x.Banks {
		if len(b.Data) != 16384 {
			t.Errorf("Image: bank %d has %d bytes", b.Num, len(b.Data))
		}
	}
	if len(x.Ram) != 16384 || len(x.Screen) != 3072 {
		t.Fatalf("Image: %d bytes of Ram, %d of Screen", len(x.Ram), len(x.Screen))
	}
	if x.Ram[0] != 1 || x.Ram[16383] != 2 || x.Screen[0] != 3 || x.Screen[3071] != 4 {
		t.Error("Image: Ram and Screen are not what was written")
	}
	if x.Chosen != 14 || x.Pad != 201 || x.Pitch != 0x0102 || x.Volume != 6 || x.Time != 2 {
		t.Errorf("Image: %d %d %d %d %d", x.Chosen, x.Pad, x.Pitch, x.Volume, x.Time)
	}
	if b := made(t).Image().Banks; len(b) != 0 {
		t.Errorf("Image of a memory without banks has %s", told(b))
	}
}

// change does to a memory and its model all that can be done.
func change(m *mem.Memory, o *model, x byte) {
	for _, n := range []byte{2, 9, 3} {
		m.Choose(uint16(n))
		o.store(0xff00, n)
		for at := 0x4000; at < 0xcc00; at++ {
			m.Store(uint16(at), x)
			o.store(at, x)
		}
	}
	m.At(int(x))
	o.cycle = int(x)
	for at := 0xff04; at < 0xff07; at++ {
		m.Store(uint16(at), x)
		o.store(at, x)
	}
}

func (o *model) copy() *model {
	c := *o
	for n, b := range o.banks {
		c.banks[n] = bytes.Clone(b)
	}
	c.tones = slices.Clone(o.tones)
	return &c
}

func TestCopy(t *testing.T) { // 4.5: the same, and then neither sees the other
	for _, first := range []string{"the memory", "its copy"} {
		m, om := lived(t)
		c, oc := m.Copy(), om.copy()
		if c == nil || c == m {
			t.Fatal("Copy is no other memory")
		}
		oc.same(t, c, "a copy")
		a, oa, b, ob := m, om, c, oc
		if first == "its copy" {
			a, oa, b, ob = c, oc, m, om
		}
		change(a, oa, 150)
		oa.same(t, a, first+" that is written to")
		ob.same(t, b, "the other one")
		b.Store(0xff06, 5) // it has the cycle and the tones from before
		ob.store(0xff06, 5)
		oa.same(t, a, first+" when a tone is played in the other one")
		ob.same(t, b, "the other one with a tone")
		a.Begin(13)
		oa.begin(13)
		ob.same(t, b, "the other one, when "+first+" begins a frame")
		change(b, ob, 160)
		oa.same(t, a, first+", when the other one is written to")
		ob.same(t, b, "the other one that is written to")
	}
}

func TestCopyKeepsTheCycle(t *testing.T) { // 4.5
	m := made(t)
	m.At(17)
	c := m.Copy()
	m.At(18)
	c.Play(1, 2)
	sameTones(t, c, "a copy's tone", tone(17, 1, 2))
	c.At(19)
	m.Play(3, 4)
	sameTones(t, m, "the memory's tone", tone(18, 3, 4))
}

func TestCopiesShareNoTones(t *testing.T) { // 4.5: where a list of tones has spare room
	for many := range 20 {
		m := made(t)
		for i := range many {
			m.Play(uint16(i), 1)
		}
		c := m.Copy()
		m.Play(100, 2)
		c.Play(200, 3)
		d := c.Copy()
		d.Play(300, 4)
		c.Play(400, 5)
		if got := m.Tones(); len(got) != many+1 || got[many] != tone(0, 100, 2) {
			t.Errorf("%d tones and one more = %v", many, got)
		}
		if got := c.Tones(); len(got) != many+2 || got[many] != tone(0, 200, 3) || got[many+1] != tone(0, 400, 5) {
			t.Errorf("a copy: %d tones and two more = %v", many, got)
		}
		if got := d.Tones(); len(got) != many+2 || got[many+1] != tone(0, 300, 4) {
			t.Errorf("a copy's copy: %d tones and two more = %v", many, got)
		}
	}
}

// goodImage tells one that may be, with two banks.
func goodImage() mem.Image {
	return mem.Image{
		Banks:  []api.Bank{{Num: 3, Data: filled(bankSize, 33)}, {Num: 15, Data: filled(bankSize, 44)}},
		Ram:    filled(ramSize, 55),
		Screen: filled(screenSize, 66),
		Chosen: 15, Pad: 77, Pitch: 0x8899, Volume: 111, Time: 0xaabb,
	}
}

func TestRestore(t *testing.T) { // 4.6, 4.9: the Image, the cycle 0, no tones
	m := restored(t, goodImage())
	sameImage(t, m.Image(), goodImage(), "Restore")
	loads(t, m, 0x4000, 44)
	loads(t, m, 0x7fff, 44)
	loads(t, m, 0x8000, 55)
	loads(t, m, 0xbfff, 55)
	loads(t, m, 0xc000, 66)
	loads(t, m, 0xcbff, 66)
	loads(t, m, 0xff00, 15)
	loads(t, m, 0xff02, 77)
	cells(t, m, 0xff04, 0x8899)
	loads(t, m, 0xff06, 111)
	cells(t, m, 0xff08, 0xaabb)
	sameTones(t, m, "Restore")
	m.Store(0xff06, 1)
	sameTones(t, m, "a tone behind Restore", tone(0, 0x8899, 1))
	m.Choose(3)
	loads(t, m, 0x5000, 33)
}

func TestRestoreOfWhatMayNotBe(t *testing.T) { // 4.6: each reason alone; R2
	reasons := map[string]func(x *mem.Image){
		"no Ram":             func(x *mem.Image) { x.Ram = nil },
		"short Ram":          func(x *mem.Image) { x.Ram = x.Ram[1:] },
		"long Ram":           func(x *mem.Image) { x.Ram = append(x.Ram, 0) },
		"no Screen":          func(x *mem.Image) { x.Screen = nil },
		"short Screen":       func(x *mem.Image) { x.Screen = x.Screen[1:] },
		"long Screen":        func(x *mem.Image) { x.Screen = append(x.Screen, 0) },
		"Chosen 16":          func(x *mem.Image) { x.Chosen = 16 },
		"Chosen 17":          func(x *mem.Image) { x.Chosen = 17 },
		"Chosen 255":         func(x *mem.Image) { x.Chosen = 255 },
		"an empty bank":      func(x *mem.Image) { x.Banks[0].Data = nil },
		"a short first bank": func(x *mem.Image) { x.Banks[0].Data = x.Banks[0].Data[1:] },
		"a short last bank":  func(x *mem.Image) { x.Banks[1].Data = x.Banks[1].Data[1:] },
		"a long bank":        func(x *mem.Image) { x.Banks[1].Data = append(x.Banks[1].Data, 0) },
		"equal numbers":      func(x *mem.Image) { x.Banks[0].Num = 15 },
		"falling numbers":    func(x *mem.Image) { x.Banks[1].Num = 2 },
		"a number below 0":   func(x *mem.Image) { x.Banks[0].Num = -1 },
		"the number 16":      func(x *mem.Image) { x.Banks[1].Num = 16 },
		"a great number":     func(x *mem.Image) { x.Banks[1].Num = 256 + 15 },
		"all of them":        func(x *mem.Image) { *x = mem.Image{Chosen: 16, Banks: []api.Bank{bank(-1)}} },
		"nothing":            func(x *mem.Image) { *x = mem.Image{} },
	}
	for what, spoil := range reasons {
		x := goodImage()
		spoil(&x)
		if m, e := mem.Restore(x); m != nil || e != badInput {
			t.Errorf("Restore with %s = %v, %d", what, m != nil, e)
		}
	}
}

func TestRestoreOfEdges(t *testing.T) { // 4.6, 4.9, R4: what is just good
	for what, turn := range map[string]func(x *mem.Image){
		"no banks":         func(x *mem.Image) { x.Banks = nil },
		"empty banks":      func(x *mem.Image) { x.Banks = []api.Bank{} },
		"Chosen 0":         func(x *mem.Image) { x.Chosen = 0 },
		"a bank not there": func(x *mem.Image) { x.Chosen = 14 },
		"Pad 255":          func(x *mem.Image) { x.Pad = 255 },
		"Pitch 65535":      func(x *mem.Image) { x.Pitch = 65535 },
		"Volume 255":       func(x *mem.Image) { x.Volume = 255 },
		"Time 65535":       func(x *mem.Image) { x.Time = 65535 },
		"bank 0":           func(x *mem.Image) { x.Banks[0].Num = 0 },
		"all banks": func(x *mem.Image) {
			x.Banks = nil
			for n := range 16 {
				x.Banks = append(x.Banks, api.Bank{Num: n, Data: filled(bankSize, byte(n))})
			}
		},
	} {
		x := goodImage()
		turn(&x)
		sameImage(t, restored(t, x).Image(), x, "Restore with "+what)
	}
}

// roomy tells the same list with spare room behind it, filled with 123.
func roomy(b []byte) []byte {
	long := append(bytes.Clone(b), filled(50, 123)...)
	return long[:len(b)]
}

func TestWhatIsHandedInToNew(t *testing.T) { // R3: not changed, spare room too, and not kept
	banks := []api.Bank{{Num: 2, Data: roomy([]byte{1, 2})}, {Num: 5, Data: roomy(filled(bankSize, 3))}, {Num: 6, Data: roomy(nil)}, bank(9, 4)}
	m, o := made(t, banks[:3]...), newModel(banks[:3]...)
	for _, n := range []byte{5, 6, 2} {
		m.Choose(uint16(n))
		o.store(0xff00, n)
		m.Store(0x4001, 77)
		o.store(0x4001, 77)
		m.Store(0x4000+20, 78)
		o.store(0x4000+20, 78)
	}
	spare := bytes.Count(banks[0].Data[:52][2:], []byte{123}) == 50 && bytes.Count(banks[1].Data[:cap(banks[1].Data)], []byte{123}) >= 50 && bytes.Count(banks[2].Data[:50], []byte{123}) == 50
	if !spare || !bytes.Equal(banks[0].Data, []byte{1, 2}) || bytes.Count(banks[1].Data, []byte{3}) != bankSize || len(banks[2].Data) != 0 || banks[3].Num != 9 {
		t.Error("New, or a write to the memory, changed what was handed in")
	}
	for i := range banks {
		over(banks[i].Data, 200)
		banks[i].Num = 11
	}
	o.same(t, m, "the banks handed to New written over")
}

func TestWhatIsHandedInToRestore(t *testing.T) { // R3
	x := goodImage()
	x.Ram, x.Screen, x.Banks[0].Data = roomy(x.Ram), roomy(x.Screen), roomy(x.Banks[0].Data)
	m := restored(t, x)
	for n := range 16 {
		m.Choose(uint16(n))
		for at := range 65536 {
			if at != 0xff00 {
				m.Store(uint16(at), 99)
			}
		}
	}
	sameImage(t, x, goodImage(), "what was handed to Restore")
	for _, b := range [][]byte{x.Ram, x.Screen, x.Banks[0].Data} {
		if bytes.Count(b[:len(b)+50], []byte{123}) != 50 {
			t.Error("Restore changed spare room")
		}
	}
	m = restored(t, x)
	for _, b := range [][]byte{x.Ram, x.Screen, x.Banks[0].Data, x.Banks[1].Data} {
		over(b, 200)
	}
	over(x.Banks, bank(11))
	sameImage(t, m.Image(), goodImage(), "the Image handed to Restore written over")
}

func TestNilMemory(t *testing.T) { // 4.7, R1
	var m *mem.Memory
	for at := range 65536 {
		m.Store(uint16(at), 1)
		m.SetCell(uint16(at), 0x0101)
		if m.Load(uint16(at)) != 0 || m.Cell(uint16(at)) != 0 {
			t.Fatalf("a nil memory tells something at %04x", at)
		}
	}
	m.Begin(1)
	m.At(1)
	m.Plot(0, 0, 1)
	m.Plot(64, 48, 1)
	m.Play(1, 1)
	m.Choose(1)
	if m.Pad() != 0 || len(m.Screen()) != 0 || len(m.Tones()) != 0 || m.Copy() != nil {
		t.Error("a nil memory tells something")
	}
	sameImage(t, m.Image(), mem.Image{}, "a nil memory")
}

// anyBanks tells some banks, by their numbers rising, each with some bytes.
func anyBanks(random *rand.Rand) []api.Bank {
	var banks []api.Bank
	for n := range 16 {
		if random.Intn(4) == 0 {
			data := make([]byte, random.Intn(bankSize+1))
			random.Read(data)
			banks = append(banks, api.Bank{Num: n, Data: data})
		}
	}
	return banks
}

// anyAddress tells one near a border more often than elsewhere.
func anyAddress(random *rand.Rand) int {
	if random.Intn(3) == 0 {
		return random.Intn(65536)
	}
	return places[random.Intn(len(places))]
}

// act does one call, of any kind, to a memory and its model.
func act(random *rand.Rand, m *mem.Memory, o *model) {
	at, x := anyAddress(random), random.Intn(65536)
	switch random.Intn(8) {
	case 0:
		m.SetCell(uint16(at), uint16(x))
		o.store(at, byte(x%256))
		o.store((at+1)%65536, byte(x/256))
	case 1:
		m.Begin(byte(x))
		o.begin(byte(x))
	case 2:
		m.At(x - 100)
		o.cycle = x - 100
	case 3:
		column, row := random.Intn(70), random.Intn(54)
		m.Plot(uint16(column), uint16(row), uint16(x))
		if column < 64 && row < 48 {
			o.store(0xc000+64*row+column, byte(x%256))
		}
	case 4:
		m.Play(uint16(x), byte(at))
		o.store(0xff04, byte(x%256))
		o.store(0xff05, byte(x/256))
		o.store(0xff06, byte(at))
	case 5:
		m.Choose(uint16(x))
		o.store(0xff00, byte(x%256))
	default:
		m.Store(uint16(at), byte(x))
		o.store(at, byte(x))
	}
}

func TestLives(t *testing.T) { // 4.1 to 4.10: any calls in any order, against the model; Image, Restore and Copy on the way
	random := rand.New(rand.NewSource(44))
	for range 40 {
		banks := anyBanks(random)
		m, o := made(t, banks...), newModel(banks...)
		for range 30 {
			for range random.Intn(60) {
				act(random, m, o)
			}
			o.same(t, m, "a life")
			switch random.Intn(4) {
			case 0:
				m = restored(t, m.Image())
				o.tones, o.cycle = nil, 0
				o.same(t, m, "a life restored")
			case 1:
				old, before := m, o.copy()
				m = m.Copy()
				act(random, m, o)
				before.same(t, old, "a life that was copied")
			}
		}
	}
}
