package cart_test

import (
	"bytes"
	"encoding/binary"
	"hash/crc32"
	"math"
	"math/rand"
	"runtime"
	"slices"
	"testing"

	"wisp/api"
	"wisp/cart"
)

// wantRefused is of bytes that are no cartridge's: the error, and nothing beside it.
func wantRefused(t *testing.T, what string, b []byte, want api.Errno) {
	t.Helper()
	if c, e := cart.Decode(b); e != want || !same(c, api.Cart{}) {
		t.Errorf("%s: Decode = %v, %d, want %d", what, c, e, want)
	}
}

// wantTaken is of bytes that are: there and back.
func wantTaken(t *testing.T, what string, b []byte) api.Cart {
	t.Helper()
	c, e := cart.Decode(b)
	if e != fine {
		t.Errorf("%s: Decode = %d, want 0", what, e)
		return c
	}
	if e := cart.Check(c); e != fine {
		t.Errorf("%s: Check of what Decode answers = %d, want 0", what, e)
	}
	if back, e := cart.Encode(c); e != fine || !bytes.Equal(back, b) {
		t.Errorf("%s: Encode(Decode) = %d bytes, %d, and is not the same", what, len(back), e)
	}
	return c
}

// resealed is b with the right sum, behind a change of what stands ahead of it.
func resealed(b []byte) []byte { return sealed(b[:len(b)-4]) }

func emptyImage() []byte { return imageOf(0, codePart(), effectsPart()) }

func TestExample3(t *testing.T) { // 7.3
	wantRefused(t, "nothing", nil, badMagic)
	wantRefused(t, "WISP", []byte("WISP"), badMagic)
	wantRefused(t, "WISQ and 1", []byte("WISQ\x01"), badMagic)
	one := emptyImage()
	wantRefused(t, "a byte more", append(bytes.Clone(one), 0), badSum)
	wantRefused(t, "a byte less", one[:31], badSum)
	for at := 5; at < 32; at++ {
		turned := bytes.Clone(one)
		turned[at] ^= 255
		wantRefused(t, "one turned", turned, badSum)
	}
	few := bytes.Clone(one)
	few[5] = 1
	wantRefused(t, "n 1", resealed(few), badTable)
	wantRefused(t, "a code of three bytes", imageOf(0, codePart(1, 0, 16), effectsPart()), badSection)
	wantRefused(t, "effects that fall", imageOf(0, codePart(), effectsPart(4, 0, 0, 2, 0, 0)), badSection)
	wantRefused(t, "two banks with one number", imageOf(0, codePart(), effectsPart(), bankPart(1, nil), bankPart(1, nil)), badTable)
}

func TestDecodeOfGood(t *testing.T) { // 7.3, 7.5: bytes of the tests' own making
	for _, c := range manyCarts() {
		if got := wantTaken(t, "good bytes", model(c)); !same(got, c) {
			t.Fatalf("Decode = %v, want %v", got, c)
		}
	}
}

func TestBeginnings(t *testing.T) { // 7.3: of five bytes each must be right, whatever comes behind
	good := model(middling())
	for at := range 5 {
		for turn := 1; turn < 256; turn++ {
			b := bytes.Clone(good)
			b[at] ^= byte(turn)
			wantRefused(t, "another beginning", b, badMagic)
			wantRefused(t, "another beginning, rightly summed", resealed(b), badMagic)
			wantRefused(t, "another beginning of five bytes", b[:5], badMagic)
		}
		wantRefused(t, "too short a beginning", good[:at], badMagic)
		wantRefused(t, "it, rightly summed", sealed(good[:at]), badMagic)
	}
	wantRefused(t, "another place", append([]byte{0}, good...), badMagic)
}

func TestShorter(t *testing.T) { // 7.3, 7.6: each shorter beginning of good bytes
	for _, c := range []api.Cart{{}, middling(), {Banks: allBanks(3)}} {
		b := model(c)
		for many := range b {
			want := badSum
			if many < 5 {
				want = badMagic
			} else if many >= 12 && binary.LittleEndian.Uint32(b[many-4:]) == crc32.ChecksumIEEE(b[:many-4]) {
				t.Fatal("the bytes have a sum within them by chance: take others")
			}
			wantRefused(t, "a shorter beginning", b[:many], want)
			wantRefused(t, "one without spare room", slices.Clip(bytes.Clone(b[:many])), want)
		}
	}
}

func TestLonger(t *testing.T) { // 7.3: good bytes with others behind them
	for _, c := range []api.Cart{{}, middling()} {
		b := model(c)
		for many := 1; many < 40; many++ {
			for _, x := range []byte{0, 1, 255} {
				long := append(bytes.Clone(b), filled(many, x)...)
				wantRefused(t, "bytes added", long, badSum)
				wantRefused(t, "bytes added ahead of a right sum", resealed(append(long, 0, 0, 0, 0)), badTable)
			}
		}
		wantRefused(t, "twice", append(bytes.Clone(b), b...), badSum)
	}
}

func TestTurned(t *testing.T) { // 7.3, 7.6: each byte to each other one
	for _, c := range []api.Cart{{}, middling()} {
		b := model(c)
		for at := range b {
			for turn := 1; turn < 256; turn++ {
				was := b[at]
				b[at] ^= byte(turn)
				want := badSum
				if at < 5 {
					want = badMagic
				}
				wantRefused(t, "one turned", b, want)
				b[at] = was
			}
		}
	}
}

func TestTurnedInGreat(t *testing.T) { // 7.6: at some places of the greatest cartridge
	b := model(greatest())
	for at := 5; at < len(b); at += 3041 {
		b[at] ^= 16
		wantRefused(t, "one turned", b, badSum)
		b[at] ^= 16
	}
	wantTaken(t, "all turned back", b)
}

func TestTooFewForASum(t *testing.T) { // 7.3: five to eleven bytes, and twelve
	for many := 5; many < 8; many++ {
		wantRefused(t, "fewer than 12, rightly summed", sealed([]byte("WISP\x01\x02\x00\x00")[:many]), badSum)
	}
	wantRefused(t, "12, rightly summed", sealed([]byte("WISP\x01\x02\x00\x00")), badTable)
	wantRefused(t, "12, with another sum", []byte("WISP\x01\x02\x00\x00\x00\x00\x00\x00"), badSum)
}

func TestMostBytes(t *testing.T) { // 7.3: just api.MaxCart, and one more; both rightly summed
	for _, c := range []struct {
		many int
		want api.Errno
	}{{maxCart - 1, badSection}, {maxCart, badSection}, {maxCart + 1, badSum}, {maxCart + 2, badSum}, {2 * maxCart, badSum}} {
		b := imageOf(0, codePart(make([]byte, c.many-32)...), effectsPart())
		if len(b) != c.many {
			t.Fatalf("%d bytes", len(b))
		}
		wantRefused(t, "many bytes", b, c.want)
	}
	wantRefused(t, "many bytes and no table", sealed(append([]byte("WISP\x01\x00\x00\x00"), make([]byte, maxCart-12)...)), badTable)
	wantRefused(t, "one byte more, and no table", sealed(append([]byte("WISP\x01\x00\x00\x00"), make([]byte, maxCart-11)...)), badSum)
}

// ofSections is a table and sections right for n, as far as there can be any.
func ofSections(n int) []byte {
	parts := []part{codePart(1, 2), effectsPart(3, 4, 5)}
	for i := range max(n-2, 0) {
		parts = append(parts, bankPart(byte(i), []byte{6}))
	}
	return imageOf(7, parts[:n]...)
}

func TestHowManySections(t *testing.T) { // 7.3: n
	for n := range 256 {
		if n >= 2 && n <= 18 {
			wantTaken(t, "n sections", ofSections(n))
		} else {
			wantRefused(t, "n sections", ofSections(n), badTable)
		}
	}
	for _, c := range []api.Cart{{}, middling(), {Banks: allBanks(4)}} {
		for n := range 256 {
			b := model(c)
			if int(b[5]) == n {
				continue
			}
			b[5] = byte(n)
			wantRefused(t, "another n", resealed(b), badTable)
		}
	}
}

func TestTableIsCut(t *testing.T) { // 7.3: the bytes end, ahead of the sum, before the table does
	for n := 2; n <= 18; n++ {
		b := ofSections(n)
		for many := 8; many < 8+10*n; many++ {
			wantRefused(t, "a table that is cut", sealed(b[:many]), badTable)
		}
	}
	// 24 of the 28 bytes of a table, and the sum in place of the others.
	wantRefused(t, "the sum within the table", sealed(emptyImage()[:24]), badTable)
}

// change is bytes with their right sum in which row i is another.
func change(c api.Cart, i int, how func(r *row)) []byte {
	b := model(c)
	at := 8 + 10*i
	r := row{b[at], b[at+1], binary.LittleEndian.Uint32(b[at+2:]), binary.LittleEndian.Uint32(b[at+6:])}
	how(&r)
	copy(b[at:], headed(0, 0, r)[8:])
	return resealed(b)
}

func TestKindsOfRows(t *testing.T) { // 7.3
	c := middling()
	for i := range 5 {
		right := byte(min(i+1, 3))
		for kind := range 256 {
			b := change(c, i, func(r *row) { r.kind = byte(kind) })
			if byte(kind) == right {
				wantTaken(t, "the right kind", b)
			} else {
				wantRefused(t, "another kind", b, badTable)
			}
		}
	}
}

func TestNumbersOfRows(t *testing.T) { // 7.3: 0 of code and effects; rising from 0 to 15 of the banks 0, 7 and 15
	right := [][2]int{{0, 0}, {0, 0}, {0, 6}, {1, 14}, {8, 15}}
	for i, border := range right {
		for number := range 256 {
			b := change(middling(), i, func(r *row) { r.number = byte(number) })
			if number >= border[0] && number <= border[1] {
				wantTaken(t, "a right number", b)
			} else {
				wantRefused(t, "another number", b, badTable)
			}
		}
	}
}

func TestBeginningsAndLengthsOfRows(t *testing.T) { // 7.3, 7.7: by one, by much, and those that wrap round
	for i := range 5 {
		for _, x := range []uint32{1, 2, 6, 10, 256, 65536, 1 << 24, 1 << 31, math.MaxUint32, math.MaxUint32 - 1, math.MaxUint32 - 5, 1<<31 - 1} {
			wantRefused(t, "another beginning", change(middling(), i, func(r *row) { r.begin += x }), badTable)
			wantRefused(t, "another length", change(middling(), i, func(r *row) { r.size += x }), badTable)
		}
		for _, x := range []uint32{0, 8, 1 << 31, math.MaxUint32} {
			wantRefused(t, "a beginning of its own", change(middling(), i, func(r *row) { r.begin = x }), badTable)
		}
		for _, x := range []uint32{1 << 31, 1<<31 - 1, math.MaxUint32} {
			wantRefused(t, "a length of its own", change(middling(), i, func(r *row) { r.size = x }), badTable)
		}
	}
}

func TestLengthsThatWrap(t *testing.T) { // 7.3, 7.7: each row where the one ahead of it ends, reckoned with 32 bits
	wrapping := func(sizes ...uint32) []byte {
		at := uint32(8 + 10*len(sizes))
		var rows []row
		for i, size := range sizes {
			r := row{3, byte(max(i-2, 0)), at, size}
			if i < 2 {
				r = row{byte(i + 1), 0, at, size}
			}
			rows = append(rows, r)
			at += size
		}
		return tabled(0, rows)
	}
	wantTaken(t, "nothing wraps", wrapping(0, 0, 0))
	minus := func(n uint32) uint32 { return -n }
	wantRefused(t, "one and its like below 0", wrapping(6, minus(6)), badTable)
	wantRefused(t, "the same the other way round", wrapping(minus(6), 6), badTable)
	wantRefused(t, "to the beginning and back", wrapping(minus(28), 28), badTable)
	wantRefused(t, "two halves", wrapping(1<<31, 1<<31), badTable)
	wantRefused(t, "banks", wrapping(0, 0, 16, minus(16)), badTable)
	wantRefused(t, "all the way round", wrapping(1<<30, 1<<30, 1<<30, 1<<30), badTable)
}

func TestGapsAndOverlaps(t *testing.T) { // 7.3: one right behind the other, from 8 + 10 n on, up to the sum
	parts := []part{codePart(1, 2, 3, 4), effectsPart(1, 2, 3), bankPart(4, []byte{5, 6, 7})}
	right := rowsOf(parts)
	wantTaken(t, "right", tabled(0, right, parts...))
	for _, c := range []struct {
		what string
		how  func(r []row)
	}{
		{"a gap ahead of the code", func(r []row) { r[0].begin, r[0].size = r[0].begin+2, 2 }},
		{"a gap behind the code", func(r []row) { r[0].size = 2 }},
		{"a gap ahead of the bank", func(r []row) { r[2].begin, r[2].size = r[2].begin+1, 2 }},
		{"a gap behind the bank", func(r []row) { r[2].size = 2 }},
		{"code over effects", func(r []row) { r[0].size = 6 }},
		{"the bank over the sum", func(r []row) { r[2].size = 4 }},
		{"the bank over all of the sum", func(r []row) { r[2].size = 7 }},
		{"the bank beyond the sum", func(r []row) { r[2].size = 8 }},
		{"code and effects changed over", func(r []row) { r[0].begin, r[1].begin, r[0].size, r[1].size = 44, 38, 4, 6 }},
		{"code in the table", func(r []row) { r[0].begin = 28 }},
	} {
		rows := slices.Clone(right)
		c.how(rows)
		wantRefused(t, c.what, tabled(0, rows, parts...), badTable)
	}
	moved := slices.Clone(right)
	moved[0].size, moved[1].begin = 0, right[0].begin
	wantRefused(t, "effects of ten bytes, one right behind the other", tabled(0, []row{moved[0], {2, 0, 38, 10}, right[2]}, parts...), badSection)
	empty := []part{codePart(), effectsPart(), bankPart(4, nil)}
	for i := range empty {
		rows := rowsOf(empty)
		rows[i].begin = 0
		wantRefused(t, "an empty section elsewhere", tabled(0, rows, empty...), badTable)
	}
}

func TestOrderOfRows(t *testing.T) { // 7.3: code, effects, banks
	code, effects, bank := codePart(1, 2), effectsPart(1, 2, 3), bankPart(0, []byte{1, 2})
	wantTaken(t, "right", imageOf(0, code, effects, bank))
	for _, parts := range [][]part{
		{effects, code}, {effects, code, bank}, {code, bank, effects}, {bank, code, effects}, {bank, effects, code},
		{code, bank}, {effects, bank}, {bank, bank}, {code, code}, {effects, effects}, {code, effects, effects}, {code, code, effects}, {code, effects, bank, effects}, {code, effects, bank, code},
	} {
		wantRefused(t, "another order", imageOf(0, parts...), badTable)
	}
}

func TestCodeSections(t *testing.T) { // 7.3: even, and none above 16384
	for many := range 20 {
		b := imageOf(0, codePart(filled(many, 1)...), effectsPart())
		if many%2 == 0 {
			wantTaken(t, "even", b)
		} else {
			wantRefused(t, "odd", b, badSection)
		}
	}
	wantTaken(t, "16384", imageOf(0, codePart(filled(16384, 1)...), effectsPart()))
	for _, many := range []int{16383, 16385, 16386, 32768, 65536, 500000} {
		wantRefused(t, "odd, or too long", imageOf(0, codePart(filled(many, 1)...), effectsPart()), badSection)
	}
}

func TestBankSections(t *testing.T) { // 7.3: none above 16384, the first's and the last's
	for _, many := range []int{0, 1, 16383, 16384} {
		wantTaken(t, "banks", imageOf(0, codePart(), effectsPart(), bankPart(0, filled(many, 1)), bankPart(15, filled(many, 2))))
	}
	for _, many := range []int{16385, 16386, 32768, 500000} {
		wantRefused(t, "a long first bank", imageOf(0, codePart(), effectsPart(), bankPart(0, filled(many, 1)), bankPart(15, nil)), badSection)
		wantRefused(t, "a long last bank", imageOf(0, codePart(), effectsPart(), bankPart(0, nil), bankPart(15, filled(many, 1))), badSection)
	}
}

func TestEffectSections(t *testing.T) { // 7.3: whole effects, rising, at most 8192, In and Out up to 256
	for many := range 40 {
		part := effectsPart(1, 2, 3, 2, 3, 4, 3, 4, 5, 4, 5, 6, 5, 6, 7, 6, 7, 8, 7, 8, 9)
		part.data = part.data[:many]
		if b := imageOf(0, codePart(), part); many%6 == 0 {
			wantTaken(t, "whole effects", b)
		} else {
			wantRefused(t, "a piece of an effect", b, badSection)
		}
	}
	for _, cells := range [][]uint16{
		{0, 0, 0}, {65535, 256, 256}, {0, 256, 0, 1, 0, 256}, {65534, 0, 0, 65535, 0, 0}, {255, 1, 1, 256, 1, 1},
	} {
		wantTaken(t, "effects", imageOf(0, codePart(), effectsPart(cells...)))
	}
	for _, cells := range [][]uint16{
		{0, 257, 0}, {0, 0, 257}, {0, 65535, 0}, {0, 0, 65535}, {0, 32768, 0}, {0, 0, 512}, {0, 0, 0, 1, 257, 0}, {0, 0, 0, 1, 0, 257},
		{0, 0, 0, 0, 0, 0}, {1, 0, 0, 0, 0, 0}, {256, 0, 0, 255, 0, 0}, {65535, 0, 0, 0, 0, 0}, {1, 0, 0, 2, 0, 0, 2, 0, 0}, {1, 0, 0, 3, 0, 0, 2, 0, 0},
	} {
		wantRefused(t, "effects that may not be", imageOf(0, codePart(), effectsPart(cells...)), badSection)
	}
}

func TestManyEffectsInASection(t *testing.T) { // 7.3: 8192, and more of them that all rise
	cells := func(many int) []uint16 {
		var list []uint16
		for i := range many {
			list = append(list, uint16(i), 1, 2)
		}
		return list
	}
	wantTaken(t, "8192", imageOf(0, codePart(), effectsPart(cells(8192)...)))
	wantRefused(t, "8193", imageOf(0, codePart(), effectsPart(cells(8193)...)), badSection)
	wantRefused(t, "65536", imageOf(0, codePart(), effectsPart(cells(65536)...)), badSection)
}

func TestTwoFaults(t *testing.T) { // 7.3: which error comes first
	odd, falls := codePart(1, 2, 3), effectsPart(4, 0, 0, 2, 0, 0)
	other := imageOf(0, odd, falls)
	other[4] = 2
	wantRefused(t, "version and section", resealed(other), badMagic)
	wantRefused(t, "version, sum and section", other, badMagic)
	turned := imageOf(0, odd, falls)
	turned[len(turned)-1] ^= 1
	wantRefused(t, "sum and section", turned, badSum)
	few := imageOf(0, codePart(), effectsPart())
	few[5] = 1
	wantRefused(t, "sum and table", few, badSum)
	wantRefused(t, "section of the code, and a table that fails last", imageOf(0, odd, falls, bankPart(0, nil), bankPart(0, nil)), badTable)
	wantRefused(t, "a bank too long, and one with its number", imageOf(0, odd, effectsPart(), bankPart(3, filled(16385, 1)), bankPart(3, nil)), badTable)
	wantRefused(t, "a bank too long, and the last number 16", imageOf(0, codePart(), effectsPart(), bankPart(3, filled(16385, 1)), bankPart(16, nil)), badTable)
	rows := rowsOf([]part{odd, falls})
	rows[1].size--
	wantRefused(t, "section and the end not at the sum", tabled(0, rows, odd, falls), badTable)
	wantRefused(t, "code and effects", imageOf(0, odd, falls), badSection)
	wantRefused(t, "effects and a bank", imageOf(0, codePart(), falls, bankPart(3, filled(16385, 1))), badSection)
}

func TestFaultsBehindGood(t *testing.T) { // 7.3, R2: nothing of what was read ahead of the fault is told
	c := middling()
	wantRefused(t, "the last bank too long", imageOf(c.Entry, codePart(c.Code...), effectsPart(1, 2, 3), bankPart(1, []byte{1}), bankPart(2, filled(16385, 2))), badSection)
	wantRefused(t, "the effects", imageOf(c.Entry, codePart(c.Code...), effectsPart(1, 257, 3), bankPart(1, []byte{1})), badSection)
}

func TestAnyBytes(t *testing.T) { // 7.3, 7.5: whatever Decode takes, Encode gives back; it takes what the tests' own reader takes
	random := rand.New(rand.NewSource(11))
	for range 20000 {
		c := anyCart(random)
		b := model(c)
		for range random.Intn(3) {
			switch at := random.Intn(len(b) - 4); random.Intn(3) {
			case 0:
				b[at] ^= 1 << random.Intn(8)
			case 1:
				b = slices.Delete(b, at, at+1)
			default:
				b = slices.Insert(b, at, byte(random.Intn(256)))
			}
		}
		b = resealed(b)
		want := judged(b)
		if want == fine {
			wantTaken(t, "bytes with changes", b)
		} else {
			wantRefused(t, "bytes with changes", b, want)
		}
	}
}

// judged is 7.3 as it stands, of bytes that have the right sum.
func judged(b []byte) api.Errno {
	if string(b[:5]) != "WISP\x01" {
		return badMagic
	}
	if len(b) < 12 {
		return badSum
	}
	n, end := int(b[5]), len(b)-4
	if n < 2 || n > 18 || 8+10*n > end {
		return badTable
	}
	at, order := 8+10*n, -1
	var sizes []int
	for i := range n {
		r := b[8+10*i:]
		// A row's kind and number as one: 256 and 512, and behind them 768 to 783, must rise.
		now := 256*int(r[0]) + int(r[1])
		size := int(binary.LittleEndian.Uint32(r[6:]))
		if i < 2 && now != 256*(i+1) || i >= 2 && (now < 768 || now > 783) || now <= order || int(binary.LittleEndian.Uint32(r[2:])) != at {
			return badTable
		}
		order, at, sizes = now, at+size, append(sizes, size)
	}
	if at != end {
		return badTable
	}
	if sizes[0]%2 != 0 || sizes[1]%6 != 0 || sizes[0] > 16384 || sizes[1] > 6*8192 || slices.Max(append(sizes[2:], 0)) > 16384 {
		return badSection
	}
	effects := b[8+10*n+sizes[0]:][:sizes[1]]
	for i := 0; i < len(effects); i += 6 {
		cell := func(at int) int { return int(binary.LittleEndian.Uint16(effects[at:])) }
		if cell(i+2) > 256 || cell(i+4) > 256 || i > 0 && cell(i) <= cell(i-6) {
			return badSection
		}
	}
	return fine
}

// taken tells how many bytes of memory a call of Decode has taken.
func taken(b []byte) uint64 {
	var before, behind runtime.MemStats
	runtime.ReadMemStats(&before)
	cart.Decode(b)
	runtime.ReadMemStats(&behind)
	return behind.TotalAlloc - before.TotalAlloc
}

func TestTakesNoMoreThanThereIs(t *testing.T) { // 7.7: the lengths that are said are not believed
	defer runtime.GOMAXPROCS(runtime.GOMAXPROCS(1))
	for _, size := range []uint32{1 << 20, 1 << 28, 1<<31 - 1, math.MaxUint32} {
		for i := range 5 {
			if got := taken(change(middling(), i, func(r *row) { r.size = size })); got > 1<<16 {
				t.Errorf("row %d says %d bytes: Decode has taken %d", i, size, got)
			}
		}
	}
	long := imageOf(0, codePart(), part{2, 0, make([]byte, 6*80000)})
	if got := taken(long); got > uint64(len(long)) {
		t.Errorf("effects of %d bytes, which may not be: Decode has taken %d", len(long), got)
	}
}
