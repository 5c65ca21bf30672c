package pack_test

import (
	"bytes"
	"encoding/binary"
	"fmt"
	"hash/crc32"
	"math"
	"math/rand"
	"slices"
	"testing"

	"wisp/api"
	"wisp/pack"
)

// The errors by the document's numbers, not by api's names: a slip in one of the two must show.
const (
	fine     = api.Errno(0)
	noHandle = api.Errno(1)
	tooShort = api.Errno(30)
	badForm  = api.Errno(31)
)

// sumBitByBit says 3.1 as it stands there, without a table.
func sumBitByBit(b []byte) uint32 {
	register := uint32(0xffffffff)
	for _, x := range b {
		register ^= uint32(x)
		for range 8 {
			if register&1 == 1 {
				register = register>>1 ^ 0xedb88320
			} else {
				register >>= 1
			}
		}
	}
	return register ^ 0xffffffff
}

// anyBytes tells that many bytes of any kind.
func anyBytes(random *rand.Rand, many int) []byte {
	b := make([]byte, many)
	random.Read(b)
	return b
}

// cut tells b in parts, some of them empty, some of them nil.
func cut(random *rand.Rand, b []byte) [][]byte {
	var parts [][]byte
	for len(b) > 0 || random.Intn(3) > 0 {
		switch random.Intn(4) {
		case 0:
			parts = append(parts, nil)
		case 1:
			parts = append(parts, []byte{})
		default:
			n := random.Intn(len(b) + 1)
			parts = append(parts, b[:n])
			b = b[n:]
		}
	}
	return parts
}

func TestSumOfShortLists(t *testing.T) { // 3.1: each byte, and each pair of bytes
	for x := range 256 {
		for y := range 256 {
			b := []byte{byte(x), byte(y)}
			if got, want := pack.Sum(b), sumBitByBit(b); got != want {
				t.Fatalf("Sum(% x) = %08x, want %08x", b, got, want)
			}
		}
		b := []byte{byte(x)}
		if got, want := pack.Sum(b), sumBitByBit(b); got != want {
			t.Fatalf("Sum(% x) = %08x, want %08x", b, got, want)
		}
	}
}

func TestSumOfLongLists(t *testing.T) { // 3.1: also against the library's, which is of zip and of PNG
	random := rand.New(rand.NewSource(31))
	for many := range 300 {
		for _, b := range [][]byte{anyBytes(random, many), make([]byte, many), bytes.Repeat([]byte{255}, many)} {
			got := pack.Sum(b)
			if got != sumBitByBit(b) || got != crc32.ChecksumIEEE(b) {
				t.Fatalf("Sum(% x) = %08x, want %08x", b, got, crc32.ChecksumIEEE(b))
			}
		}
	}
	b := anyBytes(random, 1<<22)
	if got, want := pack.Sum(b), crc32.ChecksumIEEE(b); got != want {
		t.Errorf("the sum of %d bytes is %08x, want %08x", len(b), got, want)
	}
}

func TestSumOfNothing(t *testing.T) { // 3.1
	for _, parts := range [][][]byte{nil, {}, {nil}, {{}}, {nil, {}, nil}} {
		if got := pack.Sum(parts...); got != 0 {
			t.Errorf("Sum(%v) = %08x, want 0", parts, got)
		}
	}
}

func TestSumOfParts(t *testing.T) { // 3.8
	random := rand.New(rand.NewSource(38))
	for many := range 40 {
		b := anyBytes(random, many)
		want := crc32.ChecksumIEEE(b)
		for i := range many + 1 {
			for j := i; j <= many; j++ {
				if got := pack.Sum(b[:i], b[i:j], b[j:]); got != want {
					t.Fatalf("cut at %d and %d the sum of % x is %08x, want %08x", i, j, b, got, want)
				}
			}
		}
		for range 40 {
			parts := cut(random, b)
			if got := pack.Sum(parts...); got != want {
				t.Fatalf("the sum of %v is %08x, want %08x", parts, got, want)
			}
		}
		if got := pack.Sum(slices.Collect(slices.Chunk(b, 1))...); got != want {
			t.Fatalf("byte by byte the sum of % x is %08x, want %08x", b, got, want)
		}
	}
}

func TestSumOfOneByteThatDiffers(t *testing.T) { // 3.9
	random := rand.New(rand.NewSource(39))
	for _, b := range [][]byte{{0}, {255}, make([]byte, 33), bytes.Repeat([]byte{255}, 33), anyBytes(random, 7), anyBytes(random, 64)} {
		want := pack.Sum(b)
		for at := range b {
			seen := map[uint32]byte{want: b[at]}
			other := slices.Clone(b)
			for x := range 256 {
				if byte(x) == b[at] {
					continue
				}
				other[at] = byte(x)
				got := pack.Sum(other)
				if y, ok := seen[got]; ok {
					t.Fatalf("% x has one sum with %02x and with %02x at %d", b, x, y, at)
				}
				seen[got] = byte(x)
			}
		}
	}
}

func TestSumOf32BitsThatDiffer(t *testing.T) { // 3.9: from any bit on, the lowest bit of a byte being its first
	random := rand.New(rand.NewSource(32))
	b := anyBytes(random, 24)
	want := pack.Sum(b)
	for first := range len(b)*8 - 31 {
		for i := range 300 {
			burst := uint64(random.Uint32())
			switch {
			case i < 32:
				burst = 1 << i
			case i == 32:
				burst = math.MaxUint32
			case i == 33:
				burst = 0xedb88320
			case burst == 0:
				continue
			}
			other := append(slices.Clone(b), make([]byte, 8)...)
			at := other[first/8:]
			binary.LittleEndian.PutUint64(at, binary.LittleEndian.Uint64(at)^burst<<(first%8))
			if other = other[:len(b)]; bytes.Equal(other, b) {
				t.Fatalf("the burst %x from bit %d on has changed nothing", burst, first)
			}
			if pack.Sum(other) == want {
				t.Fatalf("% x and % x have one sum", b, other)
			}
		}
	}
}

func TestSumLeavesItsParts(t *testing.T) { // R3
	room := []byte("0123456789")
	parts := [][]byte{room[1:4:4], room[4:6], nil, room[8:9]}
	pack.Sum(parts...)
	if string(room) != "0123456789" || string(parts[0]) != "123" || string(parts[1]) != "45" || parts[2] != nil || string(parts[3]) != "8" {
		t.Errorf("Sum has changed its parts: %q, of %q", parts, room)
	}
}

// edges are where the forms of numbers grow by a byte, and what is beside them and beyond.
var edges = []int{
	0, 1, 2, 63, 64, 126, 127, 128, 129, 255, 256, 300, 16382, 16383, 16384, 16385, 65535, 65536, 2097150, 2097151, 2097152, 2097153,
	268435454, 268435455, 268435456, 268435457, 1<<31 - 1, 1 << 31, 1<<31 + 1, 4294967294, 4294967295, 4294967296, 4294967297, 1<<32 + 127, 1<<32 + 128, 1<<33 + 300,
	1<<40 - 1, 1 << 40, 1 << 62, math.MaxInt - 1, math.MaxInt, -1, -2, -127, -128, -129, -300, -1 << 31, -1<<31 - 1, -1 << 32, -1<<32 + 5, -1<<32 - 5, math.MinInt, math.MinInt + 1,
}

// step is one call of a writer, and the same one of a reader.
type step struct {
	call string
	x    int
	b    []byte
}

func (s step) String() string {
	if s.call == "Bytes" {
		return fmt.Sprintf("Bytes(% x)", s.b)
	}
	return fmt.Sprintf("%s(%d)", s.call, s.x)
}

// laid says 3.2 by the library.
func (s step) laid() []byte {
	switch s.call {
	case "Byte":
		return []byte{byte(s.x)}
	case "Cell":
		return binary.LittleEndian.AppendUint16(nil, uint16(s.x))
	case "Word":
		return binary.LittleEndian.AppendUint32(nil, uint32(s.x))
	case "Number":
		return binary.AppendUvarint(nil, uint64(uint32(s.x)))
	}
	return s.b
}

func (s step) write(w *pack.Writer) {
	switch s.call {
	case "Byte":
		w.Byte(byte(s.x))
	case "Cell":
		w.Cell(uint16(s.x))
	case "Word":
		w.Word(uint32(s.x))
	case "Number":
		w.Number(s.x)
	default:
		w.Bytes(s.b)
	}
}

// taken takes up what the step lays down, or as much of any bytes.
func (s step) taken(r *pack.Reader) step {
	switch s.call {
	case "Byte":
		s.x = int(r.Byte())
	case "Cell":
		s.x = int(r.Cell())
	case "Word":
		s.x = int(r.Word())
	case "Number":
		s.x = r.Number()
	default:
		s.b = r.Bytes(len(s.b))
	}
	return s
}

func (s step) same(o step) bool {
	return s.call == o.call && s.x == o.x && bytes.Equal(s.b, o.b)
}

func (s step) zero() bool { return s.x == 0 && len(s.b) == 0 }

// steps are all of a writer's calls, with small and great numbers.
func steps() []step {
	var all []step
	for _, x := range []int{0, 1, 127, 128, 255} {
		all = append(all, step{"Byte", x, nil})
	}
	for _, x := range []int{0, 1, 255, 256, 0x1234, 0xff00, 65535} {
		all = append(all, step{"Cell", x, nil})
	}
	for _, x := range []int{0, 1, 255, 256, 65535, 65536, 0x01020304, 0xff0000, 0xff000000, 1<<32 - 1} {
		all = append(all, step{"Word", x, nil})
	}
	for _, x := range edges {
		all = append(all, step{"Number", x, nil})
	}
	for _, b := range [][]byte{nil, {}, {0}, {255}, {128, 0}, []byte("bytes as they are"), bytes.Repeat([]byte{7}, 70)} {
		all = append(all, step{"Bytes", 0, b})
	}
	return all
}

// script tells some steps in a row, of any numbers.
func script(random *rand.Rand) []step {
	all := make([]step, random.Intn(30))
	for i := range all {
		x := int(random.Uint64() >> random.Intn(64))
		switch random.Intn(5) {
		case 0:
			all[i] = step{"Byte", x % 256, nil}
		case 1:
			all[i] = step{"Cell", x % 65536, nil}
		case 2:
			all[i] = step{"Word", x % (1 << 32), nil}
		case 3:
			all[i] = step{"Number", x, nil}
		default:
			all[i] = step{"Bytes", 0, anyBytes(random, random.Intn(20))}
		}
	}
	for i := range all {
		if all[i].call != "Number" && all[i].x < 0 {
			all[i].x = -all[i].x
		}
	}
	return all
}

func wantDone(t *testing.T, w *pack.Writer, want []byte, what ...any) {
	t.Helper()
	if got := w.Done(); !bytes.Equal(got, want) {
		t.Errorf("%v: Done() = % x, want % x", what, got, want)
	}
}

func TestWriterCallByCall(t *testing.T) { // 3.2: every call behind every other one
	for _, a := range steps() {
		var alone pack.Writer
		a.write(&alone)
		wantDone(t, &alone, a.laid(), a)
		for _, b := range steps() {
			var w pack.Writer
			a.write(&w)
			b.write(&w)
			wantDone(t, &w, slices.Concat(a.laid(), b.laid()), a, b)
		}
	}
}

func TestWriterOfAllNumbers(t *testing.T) { // 3.2
	for x := range 65536 {
		var w pack.Writer
		w.Byte(byte(x))
		w.Cell(uint16(x))
		w.Word(uint32(x) * 65537)
		w.Number(x)
		want := slices.Concat(step{"Byte", x, nil}.laid(), step{"Cell", x, nil}.laid(), step{"Word", x * 65537, nil}.laid(), step{"Number", x, nil}.laid())
		wantDone(t, &w, want, x)
	}
}

func TestNumberInFewBytes(t *testing.T) { // 3.2: the sizes by hand, at the edges that they change at
	for n, size := range map[int]int{0: 1, 127: 1, 128: 2, 16383: 2, 16384: 3, 2097151: 3, 2097152: 4, 268435455: 4, 268435456: 5, 4294967295: 5, 4294967296: 1, -1: 5, -4294967296: 1, math.MinInt: 1, math.MaxInt: 5} {
		var w pack.Writer
		w.Number(n)
		got := w.Done()
		if len(got) != size {
			t.Errorf("Number(%d) lays % x, want %d bytes", n, got, size)
		}
		for i, b := range got {
			if (b >= 128) != (i < len(got)-1) {
				t.Errorf("Number(%d) lays % x: 128 is added to each byte but the last", n, got)
			}
		}
	}
}

func TestDoneAgain(t *testing.T) { // 3.2, R3
	random := rand.New(rand.NewSource(33))
	for range 200 {
		var w pack.Writer
		var want []byte
		var answers, copies [][]byte
		for _, s := range script(random) {
			s.write(&w)
			want = append(want, s.laid()...)
			first, second := w.Done(), w.Done()
			if !bytes.Equal(first, want) || !bytes.Equal(second, want) {
				t.Fatalf("behind %v: Done() = % x, then % x, want % x", s, first, second, want)
			}
			for i := range second[:cap(second)] {
				second[:cap(second)][i] ^= 0xa5
			}
			_ = append(first[:len(first)-len(first)/2], 1, 2, 3)
			wantDone(t, &w, want, "an answer written over")
			third := w.Done()
			answers, copies = append(answers, third), append(copies, slices.Clone(third))
		}
		for i := range answers {
			if !bytes.Equal(answers[i], copies[i]) {
				t.Fatalf("the answer % x has become % x", copies[i], answers[i])
			}
		}
	}
}

func TestBytesLeavesItsList(t *testing.T) { // 3.2, R3
	room := []byte("abcdefghij")
	var w pack.Writer
	for _, given := range [][]byte{room[2:5], room[:0], room[4:8:8]} {
		w.Bytes(given)
		w.Byte('!')
		w.Word(0x2a2a2a2a)
	}
	if string(room) != "abcdefghij" {
		t.Errorf("the list that was handed in is %q", room)
	}
	copy(room, "..........")
	wantDone(t, &w, []byte("cde!****!****efgh!****"), "a list written over")
}

func TestBytesOfItsOwnAnswer(t *testing.T) { // 3.2
	var w pack.Writer
	w.Bytes([]byte("ab"))
	for range 3 {
		w.Bytes(w.Done())
	}
	wantDone(t, &w, []byte("abababababababab"), "Bytes(Done())")
}

func TestWritersAreTheirOwn(t *testing.T) { // R5
	var a, b pack.Writer
	for i := range 100 {
		a.Byte(byte(i))
		b.Cell(uint16(i))
	}
	if len(a.Done()) != 100 || len(b.Done()) != 200 || a.Done()[99] != 99 || b.Done()[198] != 99 {
		t.Errorf("two writers: % x and % x", a.Done(), b.Done())
	}
}

// wantReader holds a reader's error and what is left against the document.
func wantReader(t *testing.T, r *pack.Reader, left int, e api.Errno, what ...any) {
	t.Helper()
	if r.Left() != left || r.Err() != e {
		t.Errorf("%v: Left() = %d, Err() = %d, want %d, %d", what, r.Left(), r.Err(), left, e)
	}
}

// wantStopped: each call answers its zero value, takes nothing, and leaves the error as it is.
func wantStopped(t *testing.T, r *pack.Reader, left int, e api.Errno, what ...any) {
	t.Helper()
	wantReader(t, r, left, e, what...)
	for range 2 {
		for _, s := range []step{{"Byte", 0, nil}, {"Cell", 0, nil}, {"Word", 0, nil}, {"Number", 0, nil}, {"Bytes", 0, nil}, {"Bytes", 0, []byte{1}}} {
			if got := s.taken(r); !got.zero() {
				t.Errorf("%v, then %s: %v", what, s.call, got)
			}
			wantReader(t, r, left, e, what, "then", s.call)
		}
		for _, n := range []int{-1, left, left + 1, math.MinInt, math.MaxInt} {
			if got := r.Bytes(n); len(got) != 0 {
				t.Errorf("%v, then Bytes(%d): % x", what, n, got)
			}
			wantReader(t, r, left, e, what, "then Bytes", n)
		}
	}
}

func TestReaderCallByCall(t *testing.T) { // 3.3, 3.4: every call behind every other one, just to the end and with bytes behind it
	for _, a := range steps() {
		for _, b := range steps() {
			for _, behind := range [][]byte{nil, {0}, {255, 255, 255}} {
				r := pack.NewReader(slices.Concat(a.laid(), b.laid(), behind))
				wantReader(t, r, len(a.laid())+len(b.laid())+len(behind), fine, "new")
				for i, s := range []step{a, b} {
					got, want := s.taken(r), s
					if s.call == "Number" {
						want.x = int(uint32(s.x))
					}
					if !got.same(want) {
						t.Fatalf("%v taken up as %v", s, got)
					}
					wantReader(t, r, (1-i)*len(b.laid())+len(behind), fine, s)
				}
			}
		}
	}
}

func TestReaderOfAllNumbers(t *testing.T) { // 3.3
	for x := range 65536 {
		low, high := byte(x%256), byte(x/256)
		r := pack.NewReader([]byte{low, low, high, high, low, high, low, 9})
		if a, b, c := r.Byte(), r.Cell(), r.Word(); a != low || int(b) != x || c != uint32(high)+uint32(low)<<8+uint32(high)<<16+uint32(low)<<24 {
			t.Fatalf("%04x taken up as %02x, %04x, %08x", x, a, b, c)
		}
		wantReader(t, r, 1, fine, x)
	}
}

func TestReaderTooShort(t *testing.T) { // 3.3: nothing is taken, and the error stays
	for call, size := range map[string]int{"Byte": 1, "Cell": 2, "Word": 4} {
		for ahead := range 3 {
			for left := range size {
				r := pack.NewReader(bytes.Repeat([]byte{0x55}, ahead+left))
				for range ahead {
					r.Byte()
				}
				if got := (step{call, 0, nil}).taken(r); !got.zero() {
					t.Errorf("%s of %d bytes: %v", call, left, got)
				}
				wantStopped(t, r, left, tooShort, call, left)
			}
		}
	}
}

func TestReaderBytes(t *testing.T) { // 3.3
	b := []byte("0123456789")
	for n := -3; n <= 13; n++ {
		r := pack.NewReader(b)
		got := r.Bytes(n)
		if n < 0 || n > 10 {
			if len(got) != 0 {
				t.Errorf("Bytes(%d) = %q", n, got)
			}
			wantStopped(t, r, 10, tooShort, "Bytes", n)
			continue
		}
		if string(got) != string(b[:n]) {
			t.Errorf("Bytes(%d) = %q, want %q", n, got, b[:n])
		}
		wantReader(t, r, 10-n, fine, "Bytes", n)
		if rest := r.Bytes(r.Left()); string(rest) != string(b[n:]) {
			t.Errorf("Bytes of all that is left: %q, want %q", rest, b[n:])
		}
		wantReader(t, r, 0, fine, "Bytes of all")
		if none := r.Bytes(0); len(none) != 0 {
			t.Errorf("Bytes(0) at the end = %q", none)
		}
		wantReader(t, r, 0, fine, "Bytes(0) at the end")
		r.Bytes(1)
		wantStopped(t, r, 0, tooShort, "Bytes(1) at the end")
	}
	for _, n := range []int{math.MinInt, math.MinInt + 1, math.MinInt32, -1, math.MaxInt32, 1 << 32, 1<<32 + 1, 1 << 40, math.MaxInt - 1, math.MaxInt} {
		r := pack.NewReader(b)
		if got := r.Bytes(n); len(got) != 0 {
			t.Errorf("Bytes(%d) = %q", n, got)
		}
		wantStopped(t, r, 10, tooShort, "Bytes", n)
	}
}

// number says 3.3 of a number's form: the bytes begin with what the library lays down of one that is not above 4294967295, or why they do not.
func number(b []byte) (n, size int, e api.Errno) {
	first := b[:min(len(b), 5)]
	end := slices.IndexFunc(first, func(x byte) bool { return x < 128 })
	switch {
	case end < 0 && len(first) < 5:
		return 0, 0, tooShort
	case end < 0:
		return 0, 0, badForm
	}
	form := first[:end+1]
	x, _ := binary.Uvarint(form)
	if x > 4294967295 || !bytes.Equal(binary.AppendUvarint(nil, x), form) {
		return 0, 0, badForm
	}
	return int(x), len(form), fine
}

func wantNumber(t *testing.T, b []byte) {
	t.Helper()
	n, size, e := number(b)
	r := pack.NewReader(b)
	if got := r.Number(); got != n || r.Left() != len(b)-size || r.Err() != e {
		t.Fatalf("Number of % x = %d, left %d, error %d; want %d, %d, %d", b, got, r.Left(), r.Err(), n, len(b)-size, e)
	}
	if e != fine {
		wantStopped(t, r, len(b), e, "Number", b)
	}
}

func TestNumberOfManyBytes(t *testing.T) { // 3.3: the bytes that a form tells apart, in every order
	telling := []byte{0, 1, 7, 15, 16, 31, 127, 128, 129, 255}
	var all func(b []byte, most int)
	all = func(b []byte, most int) {
		wantNumber(t, slices.Clone(b))
		if most > 0 {
			for _, x := range telling {
				all(append(b, x), most-1)
			}
		}
	}
	all(nil, 4)
	for _, last := range []byte{0, 1, 15, 16, 127, 128, 255} {
		for _, behind := range [][]byte{nil, {0}, {1}, {128}, {255, 0}} {
			for i := range 81 {
				b := []byte{128 + byte(i%3)*63, 128 + byte(i/3%3)*63, 128 + byte(i/9%3)*63, 128 + byte(i/27)*63, last}
				wantNumber(t, append(b, behind...))
			}
		}
	}
}

func TestNumberByEachByte(t *testing.T) { // 3.3: each byte as the last of a form of each size
	for size := range 7 {
		for x := range 256 {
			for _, ahead := range []byte{128, 129, 255} {
				wantNumber(t, append(bytes.Repeat([]byte{ahead}, size), byte(x)))
				wantNumber(t, append(bytes.Repeat([]byte{ahead}, size), byte(x), 0))
			}
		}
	}
}

func TestNumberAtTheEdges(t *testing.T) { // 3.3
	for _, n := range edges {
		form := binary.AppendUvarint(nil, uint64(uint32(n)))
		for _, behind := range [][]byte{nil, {0}, {128}, {255, 255}} {
			wantNumber(t, slices.Concat(form, behind))
		}
		for size := range form { // cut short at each of its bytes
			r := pack.NewReader(form[:size])
			if got := r.Number(); got != 0 {
				t.Errorf("Number of % x = %d", form[:size], got)
			}
			wantStopped(t, r, size, tooShort, "Number", form[:size])
		}
	}
}

func TestNumberOfAnotherForm(t *testing.T) { // 3.3
	for _, b := range [][]byte{
		{0x80, 0}, {0xff, 0}, {0x80, 0x80, 0}, {0x81, 0x80, 0}, {0x80, 0x80, 0x80, 0}, {0x80, 0x80, 0x80, 0x80, 0}, {0xff, 0xff, 0xff, 0xff, 0}, // a last byte 0
		{0x80, 0x80, 0x80, 0x80, 0x10}, {0xff, 0xff, 0xff, 0xff, 0x10}, {0x80, 0x80, 0x80, 0x80, 0x1f}, {0x80, 0x80, 0x80, 0x80, 0x40}, {0xff, 0xff, 0xff, 0xff, 0x7f}, // above 4294967295
		{0x80, 0x80, 0x80, 0x80, 0x80}, {0x80, 0x80, 0x80, 0x80, 0x80, 0}, {0xff, 0xff, 0xff, 0xff, 0x8f, 1}, {0xff, 0xff, 0xff, 0xff, 0xff, 0xff, 0xff, 0xff, 0xff, 1}, // no end within five bytes
	} {
		r := pack.NewReader(append([]byte{3}, b...))
		r.Byte()
		if n := r.Number(); n != 0 {
			t.Errorf("Number of % x = %d", b, n)
		}
		wantStopped(t, r, len(b), badForm, "Number", b)
	}
}

func TestFirstErrorStays(t *testing.T) { // 3.3: what would be another error later on
	r := pack.NewReader([]byte{0x80, 0})
	r.Word()
	wantReader(t, r, 2, tooShort, "Word of two bytes")
	r.Number()
	wantReader(t, r, 2, tooShort, "and then Number of another form")
	r = pack.NewReader([]byte{0x80, 0})
	r.Number()
	r.Word()
	r.Bytes(-1)
	wantReader(t, r, 2, badForm, "Number of another form, and then Word of two bytes")
}

func TestReaderKeepsNoList(t *testing.T) { // 3.3, R3
	room := []byte("0123456789")
	r := pack.NewReader(room[1:7])
	clear(room)
	if x, c, b, n := r.Byte(), r.Cell(), r.Bytes(2), r.Number(); x != '1' || c != 0x3332 || string(b) != "45" || n != '6' {
		t.Errorf("of a list that was written over: %02x, %04x, %q, %d", x, c, b, n)
	}
	wantReader(t, r, 0, fine, "a list written over")
}

func TestReaderLeavesItsList(t *testing.T) { // 3.3, R3
	room := []byte("0123456789")
	r := pack.NewReader(room[1:7])
	var answers [][]byte
	for _, n := range []int{2, 0, 3, 1, 0} {
		b := r.Bytes(n)
		answers = append(answers, slices.Clone(b))
		b = b[:cap(b)]
		for i := range b {
			b[i] = '.'
		}
	}
	if got := bytes.Join(answers, []byte(" ")); string(got) != "12  345 6 " || string(room) != "0123456789" {
		t.Errorf("Bytes, its answers written over: %q, of %q", got, room)
	}
	a := pack.NewReader(room)
	first := a.Bytes(4)
	b := pack.NewReader(first)
	b.Bytes(2)[0] = '.'
	_ = append(a.Bytes(2), "...."...)
	if string(first) != "0123" || string(a.Bytes(4)) != "6789" {
		t.Errorf("an answer is %q", first)
	}
}

func TestZeroWriter(t *testing.T) { // 3.5, R1
	var w pack.Writer
	wantDone(t, &w, nil, "the zero Writer")
	w.Bytes(nil)
	wantDone(t, &w, nil, "the zero Writer and no bytes")
	for _, s := range steps() {
		p := &pack.Writer{}
		s.write(p)
		wantDone(t, p, s.laid(), s)
	}
}

func TestZeroReader(t *testing.T) { // 3.3, R1: one of no bytes
	for _, s := range []step{{"Byte", 0, nil}, {"Cell", 0, nil}, {"Word", 0, nil}, {"Number", 0, nil}, {"Bytes", 0, []byte{1}}} {
		for _, r := range []*pack.Reader{{}, new(pack.Reader), pack.NewReader(nil), pack.NewReader([]byte{})} {
			wantReader(t, r, 0, fine, "a reader of no bytes")
			if b := r.Bytes(0); len(b) != 0 {
				t.Errorf("Bytes(0) of no bytes: % x", b)
			}
			wantReader(t, r, 0, fine, "Bytes(0) of no bytes")
			if got := s.taken(r); !got.zero() {
				t.Errorf("%s of no bytes: %v", s.call, got)
			}
			wantStopped(t, r, 0, tooShort, s.call, "of no bytes")
		}
	}
	var r pack.Reader
	r.Bytes(-1)
	wantStopped(t, &r, 0, tooShort, "Bytes(-1) of no bytes")
}

func TestNilWriter(t *testing.T) { // 3.5, R1
	var w *pack.Writer
	for _, s := range steps() {
		s.write(w)
		wantDone(t, w, nil, "a nil Writer", s)
	}
}

func TestNilReader(t *testing.T) { // 3.5, R1
	var r *pack.Reader
	wantStopped(t, r, 0, noHandle, "a nil Reader")
}

func TestThereAndBack(t *testing.T) { // 3.6
	random := rand.New(rand.NewSource(36))
	for range 5000 {
		all := script(random)
		var w pack.Writer
		for _, s := range all {
			s.write(&w)
		}
		b := w.Done()
		r := pack.NewReader(b)
		for i, s := range all {
			want := s
			if s.call == "Number" {
				want.x = int(uint32(s.x))
			}
			if got := s.taken(r); !got.same(want) || r.Err() != fine {
				t.Fatalf("of %v in % x step %d has come back as %v, error %d", all, b, i, got, r.Err())
			}
		}
		wantReader(t, r, 0, fine, all)
	}
}

// looseBytes are of any kind, but for many that are parts of numbers' forms.
func looseBytes(random *rand.Rand) []byte {
	b := anyBytes(random, random.Intn(40))
	for i := range b {
		switch random.Intn(4) {
		case 0:
			b[i] %= 16
		case 1:
			b[i] |= 128
		}
	}
	return b
}

func TestBackAndThere(t *testing.T) { // 3.7
	random := rand.New(rand.NewSource(37))
	calls := []string{"Byte", "Cell", "Word", "Number", "Bytes", "Number"}
	numbers, stops := 0, 0
	for range 20000 {
		b := looseBytes(random)
		r := pack.NewReader(b)
		var w pack.Writer
		for r.Left() > 0 {
			s := step{calls[random.Intn(len(calls))], 0, make([]byte, random.Intn(4))}
			s = s.taken(r)
			if r.Err() != fine {
				stops++
				break
			}
			if s.call == "Number" {
				numbers++
			}
			s.write(&w)
			wantDone(t, &w, b[:len(b)-r.Left()], "of", b, "at last", s)
		}
	}
	if numbers < 10000 || stops < 1000 {
		t.Errorf("just %d numbers were taken up, and %d readers stopped", numbers, stops)
	}
}

func TestManyCalls(t *testing.T) { // R1: a copy of all at each call would pass the time that a test has
	const many = 1 << 20
	var w pack.Writer
	for i := range many {
		w.Byte(byte(i))
		w.Number(i)
	}
	r := pack.NewReader(w.Done())
	for i := range many {
		if x, n := r.Byte(), r.Number(); x != byte(i) || n != i {
			t.Fatalf("%d taken up as %d, %d", i, x, n)
		}
	}
	wantReader(t, r, 0, fine, "many calls")
}

func TestExampleSums(t *testing.T) { // chapter 3, example 1
	for _, c := range []struct {
		want  uint32
		parts []string
	}{{0xcbf43926, []string{"123456789"}}, {0, nil}, {0, []string{""}}, {0xe8b7be43, []string{"a"}}, {0xcbf43926, []string{"123", "", "456789"}}, {0xd202ef8d, []string{"\x00"}}} {
		var parts [][]byte
		for _, p := range c.parts {
			parts = append(parts, []byte(p))
		}
		if got := pack.Sum(parts...); got != c.want {
			t.Errorf("Sum(%q) = %08x, want %08x", c.parts, got, c.want)
		}
	}
}

func TestExampleWriters(t *testing.T) { // chapter 3, example 2
	for want, lay := range map[string]func(w *pack.Writer){
		"34 12":          func(w *pack.Writer) { w.Cell(0x1234) },
		"04 03 02 01":    func(w *pack.Writer) { w.Word(0x01020304) },
		"7f":             func(w *pack.Writer) { w.Number(127) },
		"80 01":          func(w *pack.Writer) { w.Number(128) },
		"ac 02":          func(w *pack.Writer) { w.Number(300) },
		"00":             func(w *pack.Writer) { w.Number(0) },
		"ff ff ff ff 0f": func(w *pack.Writer) { w.Number(4294967295) },
	} {
		var w pack.Writer
		lay(&w)
		if got := fmt.Sprintf("% x", w.Done()); got != want {
			t.Errorf("laid down: %s, want %s", got, want)
		}
	}
	var w pack.Writer
	w.Number(-1)
	w.Number(4294967296)
	wantDone(t, &w, []byte{0xff, 0xff, 0xff, 0xff, 0x0f, 0}, "Number(-1), Number(4294967296)")
}

func TestExampleReaders(t *testing.T) { // chapter 3, examples 3 and 5
	r := pack.NewReader([]byte{0x05, 0x34, 0x12})
	if x := r.Byte(); x != 5 {
		t.Errorf("Byte = %d", x)
	}
	wantReader(t, r, 2, fine, "Byte")
	if c := r.Cell(); c != 0x1234 {
		t.Errorf("Cell = %04x", c)
	}
	wantReader(t, r, 0, fine, "Cell")
	if b := r.Bytes(0); len(b) != 0 {
		t.Errorf("Bytes(0) = % x", b)
	}
	wantReader(t, r, 0, fine, "Bytes(0) at the end")
	if x := r.Byte(); x != 0 {
		t.Errorf("Byte at the end = %d", x)
	}
	wantReader(t, r, 0, tooShort, "Byte at the end")
	r = pack.NewReader([]byte{0x34})
	if c := r.Cell(); c != 0 {
		t.Errorf("Cell of one byte = %04x", c)
	}
	wantReader(t, r, 1, tooShort, "Cell of one byte")
	if x := r.Byte(); x != 0 {
		t.Errorf("Byte behind it = %d", x)
	}
	wantReader(t, r, 1, tooShort, "Byte behind it")
	r = pack.NewReader([]byte{1, 2})
	if b := r.Bytes(-1); len(b) != 0 {
		t.Errorf("Bytes(-1) = % x", b)
	}
	wantReader(t, r, 2, tooShort, "Bytes(-1)")
}

func TestExampleNumbers(t *testing.T) { // chapter 3, example 4
	for _, c := range []struct {
		b    []byte
		n    int
		left int
		e    api.Errno
	}{
		{[]byte{0x80}, 0, 1, tooShort}, {[]byte{0x80, 0}, 0, 2, badForm}, {[]byte{0xff, 0xff, 0xff, 0xff, 0x1f}, 0, 5, badForm},
		{[]byte{0x80, 0x80, 0x80, 0x80, 0x80}, 0, 5, badForm}, {[]byte{0x80, 0x80, 0x80, 0x80}, 0, 4, tooShort}, {[]byte{0xff, 0xff, 0xff, 0xff, 0x0f, 7}, 4294967295, 1, fine},
	} {
		r := pack.NewReader(c.b)
		if n := r.Number(); n != c.n {
			t.Errorf("Number of % x = %d, want %d", c.b, n, c.n)
		}
		wantReader(t, r, c.left, c.e, "Number", c.b)
	}
}
