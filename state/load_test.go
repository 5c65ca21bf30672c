package state_test

import (
	"bytes"
	"encoding/binary"
	"fmt"
	"math"
	"slices"
	"testing"

	"wisp/api"
	"wisp/vm"
)

// samples are states without a cartridge, of an empty one, and with each part.
func samples(t *testing.T) []saved {
	t.Helper()
	return []saved{{budget: 100}, {budget: 300}, plain(t), full(t)}
}

// spoilt is a sample's bytes with some of its parts laid otherwise, and the right sum.
func spoilt(s saved, spoil func(p *parts)) []byte {
	p := s.parts()
	spoil(&p)
	return p.bytes()
}

func TestLoadOfBytesThatAreCut(t *testing.T) { // 22.2: at every place, with the old sum's bytes or with a right one
	for _, s := range samples(t) {
		b := s.parts().bytes()
		wantTaken(t, "all bytes", b)
		body := b[:len(b)-4]
		for at := range b {
			wantNone(t, fmt.Sprintf("the first %d bytes", at), b[:at])
			wantNone(t, fmt.Sprintf("the bytes from %d on", at+1), b[at+1:])
			wantNone(t, fmt.Sprintf("bytes without the one at %d", at), slices.Concat(b[:at], b[at+1:]))
		}
		for at := range body {
			wantNone(t, fmt.Sprintf("the first %d bytes and their sum", at), sealed(b[:at]))
			wantLoad(t, fmt.Sprintf("bytes without the one at %d, and their sum", at), sealed(b[:at], body[at+1:]))
		}
	}
	for _, b := range [][]byte{nil, {}, {0}, {0, 0, 0, 0}, sealed(), sealed([]byte("WSAV")), sealed([]byte("WSAV\x01")), sealed([]byte("WSAV\x01\x64"))} {
		wantRefused(t, "next to nothing", b)
	}
}

func TestLoadOfBytesMore(t *testing.T) { // 22.2: behind the sum, ahead of it, anywhere
	for _, s := range samples(t) {
		b := s.parts().bytes()
		body := b[:len(b)-4]
		for x := range 256 {
			one := []byte{byte(x)}
			wantNone(t, "a byte behind the sum", slices.Concat(b, one))
			wantNone(t, "a byte ahead of the sum", sealed(body, one))
			wantNone(t, "a byte ahead of all", slices.Concat(one, b))
			wantNone(t, "a byte ahead of all, and the sum", sealed(one, body))
		}
		wantNone(t, "two sums", sealed(b))
		wantNone(t, "it twice", slices.Concat(b, b))
		wantNone(t, "many bytes more", sealed(body, make([]byte, 100000)))
		for at := range body {
			for _, x := range []byte{0, 1, 5, 127, 128, 255} {
				wantNone(t, fmt.Sprintf("a byte more at %d", at), slices.Concat(b[:at], []byte{x}, b[at:]))
				wantLoad(t, fmt.Sprintf("a byte more at %d, and the sum", at), sealed(b[:at], []byte{x}, body[at:]))
			}
		}
	}
}

func TestLoadOfTurnedBytes(t *testing.T) { // 22.2, 22.5: each byte to each other one; with a right sum it may be another state
	taken, refused := 0, 0
	for _, s := range []saved{{budget: 100}, {budget: 300}, plain(t), plain(t, 7)} {
		if s.with {
			s.state.Data, s.state.Return = []uint16{0x0102}, []api.Cell{{Kind: 3, Value: 9}}
			s.image.Ram[1], s.image.Screen[0] = 4, 5
		}
		b := s.parts().bytes()
		for at := range b {
			was := b[at]
			for x := range 256 {
				if b[at] = byte(x); b[at] == was {
					continue
				}
				wantNone(t, fmt.Sprintf("%d at %d", x, at), b)
				if at >= len(b)-4 {
					continue
				}
				if wantLoad(t, fmt.Sprintf("%d at %d, and the sum", x, at), sealed(b[:len(b)-4])) {
					taken++
				} else {
					refused++
				}
			}
			b[at] = was
		}
	}
	if taken < 1000 || refused < 1000 {
		t.Errorf("%d of the turned bytes are taken, %d refused", taken, refused)
	}
}

func TestLoadOfOtherBeginnings(t *testing.T) { // 22.2: letters and version, each with a right sum
	for _, s := range samples(t) {
		for _, begin := range []string{"", "WSAV", "wSAV\x01", "WsAV\x01", "WSaV\x01", "WSAv\x01", "WREC\x01", "WISP\x01", "VASW\x01", "\x01WSAV", "WSAV\x01\x01", "WSAV\x81\x00", "\x00\x00\x00\x00\x00", " WSAV\x01", "WSAV1"} {
			wantRefused(t, fmt.Sprintf("the beginning %q", begin), spoilt(s, func(p *parts) { p.begin = []byte(begin) }))
		}
		for version := range 256 {
			if version != 1 {
				wantRefused(t, fmt.Sprintf("the version %d", version), spoilt(s, func(p *parts) { p.begin = []byte{'W', 'S', 'A', 'V', byte(version)} }))
			}
		}
	}
}

func TestLoadOfBudgets(t *testing.T) { // 22.2: 4 to 16384
	for _, s := range samples(t) {
		for _, n := range []int{0, 1, 2, 3, 4, 5, 127, 128, 16383, 16384, 16385, 16388, 65536, 65540, math.MaxInt32, math.MaxInt32 + 1, math.MaxUint32 - 3, math.MaxUint32} {
			s.budget = n
			if taken := wantLoad(t, fmt.Sprintf("a budget of %d", n), s.parts().bytes()); taken != (n >= 4 && n <= 16384) {
				t.Errorf("22.2: Load of a budget of %d: %t", n, taken)
			}
		}
	}
}

func TestLoadOfOtherBytesForTheCartridge(t *testing.T) { // 22.2: 0 and 1 alone, each with what belongs to it
	for _, s := range samples(t) {
		for x := range 256 {
			b := spoilt(s, func(p *parts) { p.with = []byte{byte(x)} })
			if taken := wantLoad(t, fmt.Sprintf("%d for the cartridge", x), b); taken != (s.with && x == 1 || !s.with && x == 0) {
				t.Errorf("22.2: Load of %d for the cartridge: %t", x, taken)
			}
		}
	}
}

// refusedImages are bytes that console.Load refuses: magic, sum, table, section.
func refusedImages(t *testing.T) map[string][]byte {
	t.Helper()
	b := bare()
	all := map[string][]byte{
		"nothing":               nil,
		"another beginning":     sealed([]byte("WISQ"), b[4:28]),
		"another version":       sealed([]byte("WISP\x02"), b[5:28]),
		"another sum":           slices.Concat(b[:28], []byte{b[28] + 1}, b[29:]),
		"a byte less":           b[:31],
		"a byte more":           slices.Concat(b, []byte{0}),
		"the beginning alone":   []byte("WISP\x01"),
		"another kind":          sealed(b[:8], []byte{9}, b[9:28]),
		"an odd length of code": sealed([]byte("WISP\x01\x02\x00\x00\x01\x00\x1c\x00\x00\x00\x01\x00\x00\x00\x02\x00\x1d\x00\x00\x00\x00\x00\x00\x00\x07")),
		"as many as there are":  sealed(b[:28], make([]byte, mostCart-32)),
		"one more than that":    sealed(b[:28], make([]byte, mostCart-31)),
		"a state":               plain(t).parts().bytes(),
	}
	for what, x := range all {
		if e := made(t, 100).Load(x); e == fine {
			t.Fatalf("the tests' own bytes, %s: taken", what)
		}
	}
	return all
}

func TestLoadOfRefusedCartridges(t *testing.T) { // 22.2: a cartridge that may not be
	for what, image := range refusedImages(t) {
		for _, s := range []saved{plain(t), full(t)} {
			s.cart = image
			wantRefused(t, "a cartridge: "+what, s.parts().bytes())
			wantRefused(t, "a cartridge alone: "+what, spoilt(saved{budget: 100}, func(p *parts) { p.with, p.cart = []byte{1}, list(image) }))
		}
	}
	s := full(t) // another one that may be: it has not these banks
	s.cart = bare()
	wantRefused(t, "a cartridge without banks", s.parts().bytes())
	s = plain(t)
	s.cart = imageOf(t, api.Cart{Banks: []api.Bank{{Num: 1}}})
	wantRefused(t, "a cartridge with a bank more", s.parts().bytes())
}

func TestLoadOfGreatCartridges(t *testing.T) { // 22.2: all banks, all code, all effects, and all of them in the memory
	inside := api.Cart{Code: bytes.Repeat([]byte{9, 0}, 8192)}
	for n := range 8192 {
		inside.Effects = append(inside.Effects, api.Effect{At: uint16(n), In: 256})
	}
	for n := range 16 {
		inside.Banks = append(inside.Banks, api.Bank{Num: n, Data: bytes.Repeat([]byte{byte(n + 1)}, bankRoom)})
	}
	c := holding(t, mostBudget, inside)
	wantTaken(t, "a great cartridge", wantSave(t, "a great cartridge", c))
	s := savedOf(c)
	s.state.Data, s.state.Return = make([]uint16, mostData), slices.Repeat([]api.Cell{{Kind: 2}}, mostReturn)
	copy(s.image.Ram, bytes.Repeat([]byte{1}, ramRoom))
	copy(s.image.Screen, bytes.Repeat([]byte{1}, screenRoom))
	wantTaken(t, "all that may be", wantSave(t, "all that may be", s.restored(t)))
}

func TestLoadOfFrames(t *testing.T) { // 22.2: up to 9223372036854775807
	for n, may := range map[uint64]bool{0: true, 1: true, 255: true, 256: true, 4294967295: true, 4294967296: true, 4294967297: true, 1<<63 - 2: true, 1<<63 - 1: true, 1 << 63: false, 1<<63 + 1: false, 1<<63 + 1<<32: false, 1<<64 - 1: false} {
		for _, s := range []saved{plain(t), full(t)} {
			b := spoilt(s, func(p *parts) { p.frames = binary.LittleEndian.AppendUint64(nil, n) })
			if taken := wantLoad(t, fmt.Sprintf("%d frames", n), b); taken != may {
				t.Errorf("22.2: Load of %d frames: %t", n, taken)
			}
			if !may {
				continue
			}
			if _, _, frames := loaded(t, "frames", b).Status(); uint64(frames) != n {
				t.Errorf("22.2: Load of %d frames: Status tells %d", n, frames)
			}
		}
	}
}

func TestLoadOfStatuses(t *testing.T) { // 22.2: each pair of bytes: Running and Halted without a fault, Faulted with one of the seven
	s := plain(t)
	taken := 0
	for status := range 256 {
		for fault := range 256 {
			if status > 5 && fault > 9 && (status+fault)%16 > 0 {
				continue
			}
			b := spoilt(s, func(p *parts) { p.status, p.fault = []byte{byte(status)}, []byte{byte(fault)} })
			if wantLoad(t, fmt.Sprintf("the status %d with the fault %d", status, fault), b) {
				taken++
			}
		}
	}
	if taken != 9 {
		t.Errorf("22.2: %d pairs of status and fault are taken, want 9", taken)
	}
}

func TestLoadOfPlaces(t *testing.T) { // 22.2: At may be any address, as vm.Restore has it: odd ones, and those beyond the code, too
	s := plain(t)
	for at := range 65536 {
		if at > 300 && at < 65500 && at%97 > 0 {
			continue
		}
		s.state.At = uint16(at)
		b := s.parts().bytes()
		wantTaken(t, fmt.Sprintf("At %d", at), b)
		if got := loaded(t, "At", b).Machine().State().At; got != uint16(at) {
			t.Errorf("22.2: Load of At %d: %d", at, got)
		}
	}
}

func TestLoadOfKinds(t *testing.T) { // 22.2: 1 to 4, at each place of the return stack
	for x := range 256 {
		for _, before := range []int{0, 1, 127} {
			s := plain(t)
			s.state.Return = append(slices.Repeat([]api.Cell{{Kind: 1, Value: 7}}, before), api.Cell{Kind: x, Value: 0x0304})
			if taken := wantLoad(t, fmt.Sprintf("the kind %d", x), s.parts().bytes()); taken != (x >= 1 && x <= 4) {
				t.Errorf("22.2: Load of the kind %d: %t", x, taken)
			}
		}
	}
}

func TestLoadOfHeights(t *testing.T) { // 22.2: at most 256 cells, and 128
	for _, n := range []int{0, 1, 2, 126, 127, 128, 129, 130, 255, 256, 257, 258, 1000, 65536} {
		s := plain(t)
		s.state.Data = make([]uint16, n)
		if taken := wantLoad(t, fmt.Sprintf("%d cells of Data", n), s.parts().bytes()); taken != (n <= 256) {
			t.Errorf("22.2: Load of %d cells of Data: %t", n, taken)
		}
		s.state = vm.State{Status: running, Return: slices.Repeat([]api.Cell{{Kind: 4}}, n)}
		if taken := wantLoad(t, fmt.Sprintf("%d cells of Return", n), s.parts().bytes()); taken != (n <= 128) {
			t.Errorf("22.2: Load of %d cells of Return: %t", n, taken)
		}
	}
}

func TestLoadOfChosenBanks(t *testing.T) { // 22.2: 0 to 15, whether there is such a bank or not
	for x := range 256 {
		for _, s := range []saved{plain(t), full(t)} {
			s.image.Chosen = byte(x)
			if taken := wantLoad(t, fmt.Sprintf("bank %d", x), s.parts().bytes()); taken != (x <= 15) {
				t.Errorf("22.2: Load with the bank %d: %t", x, taken)
			}
		}
	}
}

func TestLoadOfPartsThatAreMissing(t *testing.T) { // 22.2: each alone, and all behind each
	for _, s := range []saved{plain(t, 3, 4), full(t)} {
		p := s.parts()
		for i := range p.pieces() {
			wantRefused(t, fmt.Sprintf("all but part %d", i), spoilt(s, func(p *parts) { *p.pieces()[i] = nil }))
			if i < len(p.pieces())-1 {
				wantRefused(t, fmt.Sprintf("nothing behind part %d", i), spoilt(s, func(p *parts) { p.cut(p.pieces()[i]) }))
			}
		}
	}
}

func TestLoadOfOtherPorts(t *testing.T) { // 22.2: the others may be anything
	for x := range 256 {
		s := full(t)
		s.image.Pad, s.image.Volume, s.image.Pitch, s.image.Time = byte(x), byte(255-x), uint16(257*x), uint16(65535-256*x)
		wantTaken(t, "ports", s.parts().bytes())
	}
}

func TestLoadOfLists(t *testing.T) { // 22.2: as long as their place, and no longer; none ends with a 0
	for _, x := range rooms {
		blank := plain(t, 3, 4)
		size := len(x.in(&blank))
		ends := func(n int, last byte) []byte { return append(make([]byte, n-1), last) }
		for what, list := range map[string]struct {
			bytes []byte
			may   bool
		}{
			"none":                        {nil, true},
			"one":                         {[]byte{1}, true},
			"a 0":                         {[]byte{0}, false},
			"two zeros":                   {[]byte{0, 0}, false},
			"a byte and a 0":              {[]byte{5, 0}, false},
			"a 0 and a byte":              {[]byte{0, 5}, true},
			"127 and a 0":                 {append(bytes.Repeat([]byte{1}, 127), 0), false},
			"one less than there is room": {ends(size-1, 1), true},
			"as many as there is room":    {ends(size, 1), true},
			"so many, all filled":         {bytes.Repeat([]byte{7}, size), true},
			"so many, with a 0 behind":    {append(bytes.Repeat([]byte{7}, size-1), 0), false},
			"so many zeros":               {make([]byte, size), false},
			"one more":                    {ends(size+1, 1), false},
			"one more, all filled":        {bytes.Repeat([]byte{7}, size+1), false},
			"one more, that is 0":         {append(bytes.Repeat([]byte{7}, size), 0), false},
			"twice as many":               {ends(2*size, 1), false},
			"very many":                   {ends(1<<20, 1), false},
		} {
			b := spoilt(blank, func(p *parts) { *x.part(p) = slices.Concat(number(len(list.bytes)), list.bytes) })
			if taken := wantLoad(t, what+" in "+x.what, b); taken != list.may {
				t.Errorf("22.2: Load of %s in %s: %t", what, x.what, taken)
			}
		}
	}
}

func TestLoadOfOtherNumbersOfBanks(t *testing.T) { // 22.2: as many lists as the cartridge has banks
	for many := range 17 {
		var banks []int
		for n := range many {
			banks = append(banks, n)
		}
		s := plain(t, banks...)
		s.image.Ram[0], s.image.Screen[0] = 3, 4
		for lists := range 18 {
			b := spoilt(s, func(p *parts) { p.banks = slices.Repeat([][]byte{{1, 5}}, lists) })
			if taken := wantLoad(t, fmt.Sprintf("%d lists for %d banks", lists, many), b); taken != (lists == many) {
				t.Errorf("22.2: Load of %d lists for %d banks: %t", lists, many, taken)
			}
		}
	}
}

// numbers are the parts that begin with a number, of a state with two banks.
var numbers = map[string]func(p *parts) *[]byte{
	"the budget":       func(p *parts) *[]byte { return &p.budget },
	"the cartridge's":  func(p *parts) *[]byte { return &p.cart },
	"Data's":           func(p *parts) *[]byte { return &p.data },
	"Return's":         func(p *parts) *[]byte { return &p.ret },
	"the first bank's": func(p *parts) *[]byte { return &p.banks[0] },
	"the second's":     func(p *parts) *[]byte { return &p.banks[1] },
	"Ram's":            func(p *parts) *[]byte { return &p.ram },
	"Screen's":         func(p *parts) *[]byte { return &p.screen },
}

func TestLoadOfOtherForms(t *testing.T) { // 22.2: a number in another form than its one, at each place
	for what, part := range numbers {
		for _, s := range []saved{plain(t, 3, 4), full(t)} {
			for zeros := range 5 {
				wantRefused(t, fmt.Sprintf("%s number with %d bytes more", what, zeros+1), spoilt(s, func(p *parts) {
					n, size := binary.Uvarint(*part(p))
					form := binary.AppendUvarint(nil, n)
					form[size-1] |= 128
					form = append(append(form, bytes.Repeat([]byte{128}, zeros)...), 0)
					*part(p) = append(form, (*part(p))[size:]...)
				}))
			}
			wantRefused(t, what+" number above 32 bits", spoilt(s, func(p *parts) {
				n, size := binary.Uvarint(*part(p))
				*part(p) = append(binary.AppendUvarint(nil, n+1<<32), (*part(p))[size:]...)
			}))
			wantRefused(t, what+" number without an end", spoilt(s, func(p *parts) {
				_, size := binary.Uvarint(*part(p))
				*part(p) = append([]byte{128, 128, 128, 128, 128, 1}, (*part(p))[size:]...)
			}))
		}
	}
	for _, form := range []string{"\xe4\x00", "\xe4\x80\x00", "\xe4\x80\x80\x80\x00", "\xe4\x80\x80\x80\x10", "\xe4\x80\x80\x80\x80\x00", "\xe4", ""} {
		wantRefused(t, fmt.Sprintf("the budget as %q", form), spoilt(saved{budget: 100}, func(p *parts) { p.budget = []byte(form) }))
	}
}

func TestLoadOfNumbersThatLie(t *testing.T) { // 22.2: said lengths that are not there, at each place: none takes memory or time
	lies := []int{0, 1, 2, 3, 4, 5, 6, 7, 8, 9, 10, 11, 12, 13, 20, 31, 33, 127, 128, 129, 256, 257, 3072, 3073, 16384, 16385, 65536, mostCart, mostCart + 1, math.MaxInt32, math.MaxInt32 + 1, math.MaxUint32 - 1, math.MaxUint32}
	for what, part := range numbers {
		for _, s := range []saved{plain(t, 3, 4), full(t)} {
			for _, n := range lies {
				said := func(p *parts) {
					_, size := binary.Uvarint(*part(p))
					*part(p) = append(number(n), (*part(p))[size:]...)
				}
				wantLoad(t, fmt.Sprintf("%d as %s number", n, what), spoilt(s, said))
				wantLoad(t, fmt.Sprintf("%d as %s number, and many bytes", n, what), spoilt(s, func(p *parts) {
					said(p)
					p.time = append(p.time, bytes.Repeat([]byte{1}, 40000)...)
				}))
				wantRefused(t, fmt.Sprintf("%d as %s number, and little behind it", n, what), spoilt(s, func(p *parts) {
					*part(p) = append(number(n), 0, 0, 0)
					p.cut(part(p))
				}))
			}
		}
	}
}

func TestLoadOfStatesThatNoLifeLeadsTo(t *testing.T) { // 22.2: it is a state nonetheless
	s := full(t)
	for what, change := range map[string]func(s *saved){
		"frames that Time does not tell":        func(s *saved) { s.frames, s.image.Time = 7, 3 },
		"no frames, and a time":                 func(s *saved) { s.frames = 0 },
		"Halted in the midst of words":          func(s *saved) { s.state.Status, s.state.Fault = halted, 0 },
		"Running where there is no code":        func(s *saved) { s.state = vm.State{At: 65535, Status: running} },
		"a fault that nothing there tells":      func(s *saved) { s.state = vm.State{Status: faulted, Fault: 2} },
		"a Limit alone":                         func(s *saved) { s.state.Return = []api.Cell{{Kind: 2, Value: 1}} },
		"a Call to where nothing is":            func(s *saved) { s.state.Return = []api.Cell{{Kind: 1, Value: 65535}} },
		"a chosen bank that is not there":       func(s *saved) { s.image.Chosen = 5 },
		"a bank with more than the cartridge's": func(s *saved) { copy(s.image.Banks[0].Data, bytes.Repeat([]byte{1}, bankRoom)) },
	} {
		x := s
		x.image.Banks = slices.Clone(s.image.Banks)
		for i := range x.image.Banks {
			x.image.Banks[i].Data = bytes.Clone(x.image.Banks[i].Data)
		}
		change(&x)
		b := x.parts().bytes()
		wantTaken(t, what, b)
		wantGoesOn(t, what, x.restored(t), loaded(t, what, b), 1, 2, 9)
	}
}
