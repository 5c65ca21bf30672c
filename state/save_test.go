package state_test

import (
	"bytes"
	"encoding/hex"
	"fmt"
	"slices"
	"strings"
	"testing"

	"wisp/api"
	"wisp/carts"
	"wisp/console"
	"wisp/state"
)

// laid is bytes that are written as hexadecimal digits, with blanks between.
func laid(t *testing.T, digits string) []byte {
	t.Helper()
	b, err := hex.DecodeString(strings.ReplaceAll(digits, " ", ""))
	if err != nil {
		t.Fatalf("the tests' own %q: %v", digits, err)
	}
	return b
}

func TestSaveOfNil(t *testing.T) { // 22.1: ErrHandle, and no bytes
	var c *console.Console
	if b, e := state.Save(c); b != nil || e != noHandle {
		t.Errorf("22.1: Save of nil: % x, %d, want none, %d", b, e, noHandle)
	}
}

func TestSaveWithoutACartridge(t *testing.T) { // 22.1: the budget alone, each number as chapter 3 lays it
	for budget, digits := range map[int]string{4: "04", 5: "05", 127: "7f", 128: "80 01", 300: "ac 02", 16383: "ff 7f", 16384: "80 80 01"} {
		want := sealed(laid(t, "57 53 41 56 01"+digits+"00"))
		c := made(t, budget)
		if b := saveOf(t, "no cartridge", c); !bytes.Equal(b, want) {
			t.Errorf("22.1: Save of New(%d): % x, want % x", budget, b, want)
		}
		c.Play(1, 2, 3) // no frame is counted
		if b := saveOf(t, "no cartridge", c); !bytes.Equal(b, want) {
			t.Errorf("22.1: Save of New(%d) behind blank frames: % x, want % x", budget, b, want)
		}
		if e := c.Load([]byte("WISP")); e == fine {
			t.Fatal("the tests' own wrong cartridge is taken")
		}
		if b := saveOf(t, "a refused cartridge", c); !bytes.Equal(b, want) {
			t.Errorf("22.1: Save behind a refused cartridge: % x, want % x", b, want)
		}
	}
	for budget := leastBudget; budget <= mostBudget; budget++ {
		wantTaken(t, "no cartridge", wantSave(t, "no cartridge", made(t, budget)))
	}
}

func TestSaveOfWhatWasEjected(t *testing.T) { // 22.1: nothing is left of it
	for _, src := range sourcesOfLives {
		c := playing(t, 128, src)
		c.Play(1, 9, 3)
		c.Eject()
		if b, want := wantSave(t, src, c), sealed(laid(t, "57 53 41 56 01 80 01 00")); !bytes.Equal(b, want) {
			t.Errorf("22.1: Save behind Eject: % x, want % x", b, want)
		}
	}
}

func TestSaveByHand(t *testing.T) { // 22.1: byte by byte: one part of an empty cartridge's state after the other
	cells := func(n int) []uint16 { return slices.Repeat([]uint16{0x0201}, n) }
	saves := func(n int) []api.Cell { return slices.Repeat([]api.Cell{{Kind: 4, Value: 0x0201}}, n) }
	times := func(n int, s string) string { return strings.Repeat(s, n) }
	for _, x := range []struct {
		what   string
		change func(s *saved)
		digits string // all behind the cartridge, but the sum
	}{
		{"as it was put in", func(s *saved) {}, "0000000000000000 0200 01 00 00 00 00 00 00 00 0000 00 0000"},
		{"one frame", func(s *saved) { s.frames = 1 }, "0100000000000000 0200 01 00 00 00 00 00 00 00 0000 00 0000"},
		{"frames", func(s *saved) { s.frames = 0x0102030405060708 }, "0807060504030201 0200 01 00 00 00 00 00 00 00 0000 00 0000"},
		{"At", func(s *saved) { s.state.At = 0x1234 }, "0000000000000000 3412 01 00 00 00 00 00 00 00 0000 00 0000"},
		{"the last At", func(s *saved) { s.state.At = 65535 }, "0000000000000000 ffff 01 00 00 00 00 00 00 00 0000 00 0000"},
		{"Halted", func(s *saved) { s.state.Status = halted }, "0000000000000000 0200 02 00 00 00 00 00 00 00 0000 00 0000"},
		{"Faulted 1", func(s *saved) { s.state.Status, s.state.Fault = faulted, 1 }, "0000000000000000 0200 03 01 00 00 00 00 00 00 0000 00 0000"},
		{"Faulted 7", func(s *saved) { s.state.Status, s.state.Fault = faulted, 7 }, "0000000000000000 0200 03 07 00 00 00 00 00 00 0000 00 0000"},
		{"Data", func(s *saved) { s.state.Data = []uint16{1, 0x1234, 0} }, "0000000000000000 0200 01 00 03 0100 3412 0000 00 00 00 00 00 0000 00 0000"},
		{"127 cells", func(s *saved) { s.state.Data = cells(127) }, "0000000000000000 0200 01 00 7f" + times(127, "0102") + "00 00 00 00 00 0000 00 0000"},
		{"128 cells", func(s *saved) { s.state.Data = cells(128) }, "0000000000000000 0200 01 00 8001" + times(128, "0102") + "00 00 00 00 00 0000 00 0000"},
		{"256 cells", func(s *saved) { s.state.Data = cells(256) }, "0000000000000000 0200 01 00 8002" + times(256, "0102") + "00 00 00 00 00 0000 00 0000"},
		{"Return", func(s *saved) {
			s.state.Return = []api.Cell{{Kind: 1, Value: 0x1234}, {Kind: 2, Value: 0}, {Kind: 3, Value: 0xffff}, {Kind: 4, Value: 5}}
		}, "0000000000000000 0200 01 00 00 04 01 3412 02 0000 03 ffff 04 0500 00 00 00 00 0000 00 0000"},
		{"127 cells there", func(s *saved) { s.state.Return = saves(127) }, "0000000000000000 0200 01 00 00 7f" + times(127, "040102") + "00 00 00 00 0000 00 0000"},
		{"128 cells there", func(s *saved) { s.state.Return = saves(128) }, "0000000000000000 0200 01 00 00 8001" + times(128, "040102") + "00 00 00 00 0000 00 0000"},
		{"both stacks", func(s *saved) { s.state.Data, s.state.Return = cells(1), saves(2) }, "0000000000000000 0200 01 00 01 0102 02 040102 040102 00 00 00 00 0000 00 0000"},
		{"Ram", func(s *saved) { s.image.Ram[0] = 9 }, "0000000000000000 0200 01 00 00 00 01 09 00 00 00 0000 00 0000"},
		{"Screen", func(s *saved) { s.image.Screen[0] = 9 }, "0000000000000000 0200 01 00 00 00 00 01 09 00 00 0000 00 0000"},
		{"Chosen", func(s *saved) { s.image.Chosen = 15 }, "0000000000000000 0200 01 00 00 00 00 00 0f 00 0000 00 0000"},
		{"Pad", func(s *saved) { s.image.Pad = 255 }, "0000000000000000 0200 01 00 00 00 00 00 00 ff 0000 00 0000"},
		{"Pitch", func(s *saved) { s.image.Pitch = 0x1234 }, "0000000000000000 0200 01 00 00 00 00 00 00 00 3412 00 0000"},
		{"Volume", func(s *saved) { s.image.Volume = 200 }, "0000000000000000 0200 01 00 00 00 00 00 00 00 0000 c8 0000"},
		{"Time", func(s *saved) { s.image.Time = 0x1234 }, "0000000000000000 0200 01 00 00 00 00 00 00 00 0000 00 3412"},
	} {
		s := plain(t)
		x.change(&s)
		want := sealed([]byte("WSAV\x01\x64\x01\x20"), bare(), laid(t, x.digits))
		if b := saveOf(t, x.what, s.restored(t)); !bytes.Equal(b, want) {
			t.Errorf("22.1: %s: % x, want % x", x.what, b, want)
		}
		wantTaken(t, x.what, want)
	}
}

func TestSaveByHandWithBanks(t *testing.T) { // 22.1: a list for each, by their numbers, ahead of Ram
	s := full(t)
	want := sealed([]byte("WSAV\x01\xac\x02\x01"), list(s.cart), laid(t, "0807060504030201 3412 03 05 03 0700 cdab 0000 04 01 8200 02 0a00 03 0302 04 0000"+
		"03 050006 8201"+strings.Repeat("08", 130)+"03 000003 02 0102 09 c8 0403 ff 0605"))
	if b := saveOf(t, "all parts", s.restored(t)); !bytes.Equal(b, want) {
		t.Errorf("22.1: all parts: % x, want % x", b, want)
	}
	wantTaken(t, "all parts", want)
	all := []int{0, 1, 2, 3, 4, 5, 6, 7, 8, 9, 10, 11, 12, 13, 14, 15}
	for many := range 17 {
		s := plain(t, all[16-many:]...)
		tail := "0000000000000000 0200 01 00 00 00"
		for i, b := range s.image.Banks {
			b.Data[i] = byte(b.Num + 1)
			tail += fmt.Sprintf("%02x %s %02x", i+1, strings.Repeat("00", i), b.Num+1)
		}
		want := sealed([]byte("WSAV\x01\x64\x01"), list(s.cart), laid(t, tail+"00 00 00 00 0000 00 0000"))
		if b := saveOf(t, "banks", s.restored(t)); !bytes.Equal(b, want) {
			t.Errorf("22.1: %d banks: % x, want % x", many, b, want)
		}
		wantTaken(t, "banks", want)
	}
}

// rooms are the lists of bytes of a memory with the banks 3 and 4, and where each stands among the state's parts.
var rooms = []struct {
	what string
	in   func(s *saved) []byte
	part func(p *parts) *[]byte
}{
	{"the first bank", func(s *saved) []byte { return s.image.Banks[0].Data }, func(p *parts) *[]byte { return &p.banks[0] }},
	{"the second bank", func(s *saved) []byte { return s.image.Banks[1].Data }, func(p *parts) *[]byte { return &p.banks[1] }},
	{"Ram", func(s *saved) []byte { return s.image.Ram }, func(p *parts) *[]byte { return &p.ram }},
	{"Screen", func(s *saved) []byte { return s.image.Screen }, func(p *parts) *[]byte { return &p.screen }},
}

func TestSaveOfRooms(t *testing.T) { // 22.1: up to the last byte that is not 0: zeros alone, at the beginning, in the middle, a byte at the very end
	zeros := func(n int) []byte { return make([]byte, n) }
	for _, x := range rooms {
		blank := plain(t, 3, 4)
		size := len(x.in(&blank))
		for what, list := range map[string][]byte{
			"nothing":               {},
			"a byte":                {7},
			"a 255":                 {255},
			"zeros ahead":           {0, 0, 7},
			"zeros in the middle":   {1, 0, 0, 7},
			"127 bytes":             append(zeros(126), 1),
			"128 bytes":             append(zeros(127), 128),
			"all but one":           append(zeros(size-2), 1),
			"the last byte":         append(zeros(size-1), 1),
			"all bytes":             bytes.Repeat([]byte{3}, size),
			"both ends":             slices.Concat([]byte{1}, zeros(size-2), []byte{1}),
			"all but the last byte": bytes.Repeat([]byte{3}, size-1),
		} {
			s := plain(t, 3, 4)
			copy(x.in(&s), list)
			p := plain(t, 3, 4).parts()
			*x.part(&p) = slices.Concat(number(len(list)), list)
			if b, want := saveOf(t, what, s.restored(t)), p.bytes(); !bytes.Equal(b, want) {
				t.Errorf("22.1: %s in %s: %d bytes, want %d", what, x.what, len(b), len(want))
			}
			wantTaken(t, what+" in "+x.what, p.bytes())
		}
	}
}

func TestSaveOfABankThatWasEmptied(t *testing.T) { // 22.1: what the machine has counts, not what the cartridge has
	c := playing(t, 100, "1 bank { 5 6 7 } : main 1 bank 0 16384 c! yield 0 16386 c! yield 0 16385 c! yield 9 16400 c! ;")
	for n, want := range []string{"03 050607", "03 000607", "02 0006", "00", "11 00000000000000000000000000000000 09"} {
		if p := savedOf(c).parts(); !bytes.Equal(p.banks[0], laid(t, want)) {
			t.Errorf("22.1: behind %d frames: % x, want %s", n, p.banks[0], want)
		}
		wantTaken(t, "a bank", wantSave(t, "a bank", c))
		c.Frame(0)
	}
}

func TestSaveOfLives(t *testing.T) { // 22.1: just put in, behind frames, cut ones and yielded ones, behind halts, faults and resets
	ends := map[api.Status]int{}
	cut, calls, loops, kept := 0, 0, 0, 0
	for _, src := range sourcesOfLives {
		for _, budget := range []int{4, 7, 20, 61, 127, 128, 1000, mostBudget} {
			c := playing(t, budget, src)
			wantTaken(t, src, wantSave(t, src, c))
			for n := range 14 {
				o := c.Frame(uint8(n))
				wantTaken(t, src, wantSave(t, src, c))
				s := savedOf(c)
				ends[o.Status]++
				if o.Status == running && src == turns { // it never yields
					cut++
				}
				for _, x := range s.state.Return {
					switch x.Kind {
					case 1:
						calls++
					case 2, 3:
						loops++
					default:
						kept++
					}
				}
			}
			fresh := savedOf(playing(t, budget, src))
			if c.Reset(); !same(savedOf(c), fresh) {
				t.Fatal("the tests' own reset console is no new one")
			}
			wantTaken(t, src, wantSave(t, src, c))
		}
	}
	if min(ends[running], ends[halted], ends[faulted], cut, calls, loops, kept) < 20 {
		t.Errorf("the lives are too much alike: %v, %d cut, %d calls, %d loops, %d kept", ends, cut, calls, loops, kept)
	}
}

func TestSaveOfFaults(t *testing.T) { // 22.1: each of the seven, with what stood there
	for fault, cells := range map[api.Fault][]uint16{
		1: {1, 26},
		2: {1, 6, 1, 8, 130},
		3: {1, 112},
		4: {1, 128},
		5: {1, 6, 1, 110, 16},
		6: {1, 0},
		7: {1, 129},
	} {
		c := holding(t, 10000, carts.Of(128, cells...))
		wantTaken(t, "ahead of a fault", wantSave(t, "ahead of a fault", c))
		if o := c.Frame(3); o.Status != faulted || o.Fault != fault {
			t.Fatalf("the tests' own fault %d: %d, %d", fault, o.Status, o.Fault)
		}
		b := wantSave(t, "a fault", c)
		wantTaken(t, "a fault", b)
		if p := savedOf(c).parts(); !bytes.Equal(p.status, []byte{3}) || !bytes.Equal(p.fault, []byte{byte(fault)}) {
			t.Errorf("22.1: the fault %d: % x, % x", fault, p.status, p.fault)
		}
		d := loaded(t, "a fault", b)
		for range 3 {
			if x, y := c.Frame(7), d.Frame(7); !sameOut(x, y) || y.Fault != fault {
				t.Errorf("22.3: the fault %d: %d, %d steps", fault, y.Fault, y.Steps)
			}
			wantTaken(t, "frames behind a fault", wantSave(t, "frames behind a fault", d))
		}
	}
}
