package num_test

import (
	"iter"
	"math"
	"math/big"
	"slices"
	"testing"

	"wisp/num"
)

// The primitives by the document's numbers, not by api's names: a slip in one of the two must show.
const (
	add, sub, mul, div, mod, udiv, umod         = 21, 22, 23, 24, 25, 26, 27
	negate, abs, minimum, maximum               = 28, 29, 30, 31
	inc, dec, twice, half                       = 32, 33, 34, 35
	and, or, xor, invert, lshift, rshift        = 36, 37, 38, 39, 40, 41
	equal, unlike, below, above, uBelow, uAbove = 42, 43, 44, 45, 46, 47
	isZero, isNegative                          = 48, 49
)

const yes uint16 = 65535

var edges = []uint16{0, 1, 2, 3, 7, 14, 15, 16, 17, 255, 256, 300, 32766, 32767, 32768, 32769, 43690, 65520, 65529, 65534, 65535}

// pairs gives each edge with the edges and with cells spread over all of them, both ways round.
func pairs() iter.Seq2[uint16, uint16] {
	return func(give func(x, y uint16) bool) {
		others := slices.Clone(edges)
		for c := 5; c < 65536; c += 97 {
			others = append(others, uint16(c))
		}
		for _, x := range edges {
			for _, y := range others {
				if !give(x, y) || !give(y, x) {
					return
				}
			}
		}
	}
}

func unary(t *testing.T, op int, x uint16) uint16 {
	t.Helper()
	z, ok := num.Unary(op, x)
	if !ok {
		t.Fatalf("Unary(%d, %d): false, want true", op, x)
	}
	return z
}

func binary(t *testing.T, op int, x, y uint16) uint16 {
	t.Helper()
	z, ok := num.Binary(op, x, y)
	if !ok {
		t.Fatalf("Binary(%d, %d, %d): false, want true", op, x, y)
	}
	return z
}

// signed and cell say the readings once more, in another way than the layer does.
func signed(x uint16) int { return int(int16(x)) }

func cell(n int) uint16 { return uint16(((n % 65536) + 65536) % 65536) }

func flag(b bool) uint16 {
	if b {
		return yes
	}
	return 0
}

func TestSigned(t *testing.T) { // P1.1
	for c := range 32768 {
		if n := num.Signed(uint16(c)); n != c {
			t.Fatalf("Signed(%d) = %d, want %d", c, n, c)
		}
		if n := num.Signed(uint16(c + 32768)); n != c-32768 {
			t.Fatalf("Signed(%d) = %d, want %d", c+32768, n, c-32768)
		}
	}
}

func TestCell(t *testing.T) { // P1.1
	for n := -200000; n <= 200000; n++ {
		if x := num.Cell(n); (n-int(x))%65536 != 0 {
			t.Fatalf("Cell(%d) = %d: no multiple of 65536 between", n, x)
		}
	}
	for n, want := range map[int]uint16{math.MaxInt: 65535, math.MinInt: 0, math.MaxInt - 65536: 65535, math.MinInt + 1: 1} {
		if x := num.Cell(n); x != want {
			t.Errorf("Cell(%d) = %d, want %d", n, x, want)
		}
	}
}

func TestFlag(t *testing.T) { // P1.1
	if x := num.Flag(true); x != 65535 {
		t.Errorf("Flag(true) = %d", x)
	}
	if x := num.Flag(false); x != 0 {
		t.Errorf("Flag(false) = %d", x)
	}
}

// unaries says what the chapter's first table says.
func unaries(op int, x uint16) uint16 {
	n := signed(x)
	switch op {
	case negate:
		return cell(65536 - int(x))
	case abs:
		return uint16(math.Abs(float64(n)))
	case inc:
		return cell(int(x) + 1)
	case dec:
		return cell(int(x) - 1)
	case twice:
		return cell(2 * int(x))
	case half:
		return cell(int(math.Floor(float64(n) / 2)))
	case invert:
		return 65535 - x
	case isZero:
		return flag(n == 0)
	}
	return flag(x >= 32768) // 0<
}

var unaryOps = []int{negate, abs, inc, dec, twice, half, invert, isZero, isNegative}

func TestUnary(t *testing.T) { // P1.2
	for _, op := range unaryOps {
		for c := range 65536 {
			x := uint16(c)
			if z, want := unary(t, op, x), unaries(op, x); z != want {
				t.Fatalf("Unary(%d, %d) = %d, want %d", op, x, z, want)
			}
		}
	}
}

// digits goes through the bits of two cells: bit by bit, as the chapter says it.
func digits(x, y uint16, bit func(a, b uint16) bool) uint16 {
	z, weight := 0, 1
	for range 16 {
		if bit(x%2, y%2) {
			z += weight
		}
		x, y, weight = x/2, y/2, weight*2
	}
	return uint16(z)
}

// shifted doubles or halves a cell so many times; what passes sixteen bits is gone behind each.
func shifted(x, times uint16, once func(n int) int) uint16 {
	n := int(x)
	for range min(times, 20) {
		n = once(n) % 65536
	}
	return uint16(n)
}

// divided tells the quotient towards 0 and what is left, by numbers of any size.
func divided(n, m int) (quotient, rest uint16) {
	if m == 0 {
		return 0, 0
	}
	q, r := new(big.Int).QuoRem(big.NewInt(int64(n)), big.NewInt(int64(m)), new(big.Int))
	return cell(int(q.Int64())), cell(int(r.Int64()))
}

// binaries says what the chapter's second table says.
func binaries(op int, x, y uint16) uint16 {
	a, b, n, m := int(x), int(y), signed(x), signed(y)
	quotient, rest := divided(n, m)
	uQuotient, uRest := divided(a, b)
	switch op {
	case add:
		return cell(a + b)
	case sub:
		return cell(a - b)
	case mul:
		return cell(a * b)
	case div:
		return quotient
	case mod:
		return rest
	case udiv:
		return uQuotient
	case umod:
		return uRest
	case minimum:
		return cell(slices.Min([]int{n, m}))
	case maximum:
		return cell(slices.Max([]int{n, m}))
	case and:
		return digits(x, y, func(a, b uint16) bool { return a+b == 2 })
	case or:
		return digits(x, y, func(a, b uint16) bool { return a+b > 0 })
	case xor:
		return digits(x, y, func(a, b uint16) bool { return a+b == 1 })
	case lshift:
		return shifted(x, y, func(n int) int { return n * 2 })
	case rshift:
		return shifted(x, y, func(n int) int { return n / 2 })
	case equal:
		return flag(a-b == 0)
	case unlike:
		return flag(a-b != 0)
	case below:
		return flag(n-m < 0)
	case above:
		return flag(n-m > 0)
	case uBelow:
		return flag(a-b < 0)
	}
	return flag(a-b > 0) // u>
}

var binaryOps = []int{add, sub, mul, div, mod, udiv, umod, minimum, maximum, and, or, xor, lshift, rshift, equal, unlike, below, above, uBelow, uAbove}

func TestBinary(t *testing.T) { // P1.3
	for _, op := range binaryOps {
		for x, y := range pairs() {
			if z, want := binary(t, op, x, y), binaries(op, x, y); z != want {
				t.Fatalf("Binary(%d, %d, %d) = %d, want %d", op, x, y, z, want)
			}
		}
	}
}

// strangers gives the ops from well below 1 to well above 63, and the farthest, that are not among some.
func strangers(some []int) iter.Seq[int] {
	return func(give func(op int) bool) {
		for op := -300; op <= 300; op++ {
			if !slices.Contains(some, op) && !give(op) {
				return
			}
		}
		for _, op := range []int{math.MinInt, math.MinInt + 28, 65536 + 21, 1<<32 + 28, 1<<32 + 21, math.MaxInt} {
			if !give(op) {
				return
			}
		}
	}
}

func TestNoSuchUnary(t *testing.T) { // P1.2
	for op := range strangers(unaryOps) {
		for _, x := range edges {
			if z, ok := num.Unary(op, x); z != 0 || ok {
				t.Fatalf("Unary(%d, %d) = %d, %v, want 0, false", op, x, z, ok)
			}
		}
	}
}

func TestNoSuchBinary(t *testing.T) { // P1.3
	for op := range strangers(binaryOps) {
		for _, x := range edges {
			for _, y := range edges {
				if z, ok := num.Binary(op, x, y); z != 0 || ok {
					t.Fatalf("Binary(%d, %d, %d) = %d, %v, want 0, false", op, x, y, z, ok)
				}
			}
		}
	}
}

func TestReadingBack(t *testing.T) { // P1.4
	for c := range 65536 {
		n := num.Signed(uint16(c))
		if n < -32768 || n > 32767 {
			t.Fatalf("Signed(%d) = %d", c, n)
		}
		if x := num.Cell(n); int(x) != c {
			t.Fatalf("Cell(Signed(%d)) = %d", c, x)
		}
	}
}

func TestDivisionAddsUp(t *testing.T) { // P1.5
	for x, y := range pairs() {
		if y == 0 {
			continue
		}
		q, r := binary(t, div, x, y), binary(t, mod, x, y)
		if z := binary(t, add, binary(t, mul, q, y), r); z != x {
			t.Fatalf("(%d / %d) * %d + mod = %d", x, y, y, z)
		}
		if n, m := num.Signed(r), num.Signed(y); max(n, -n) >= max(m, -m) {
			t.Fatalf("%d mod %d = %d: not nearer to 0", x, y, n)
		}
		uq, ur := binary(t, udiv, x, y), binary(t, umod, x, y)
		if int(uq)*int(y)+int(ur) != int(x) || ur >= y {
			t.Fatalf("%d u/ %d = %d, umod %d", x, y, uq, ur)
		}
	}
}

func TestTakenBack(t *testing.T) { // P1.5
	for x, y := range pairs() {
		if z := binary(t, sub, binary(t, add, x, y), y); z != x {
			t.Fatalf("%d + %d - %d = %d", x, y, y, z)
		}
		if z := binary(t, add, binary(t, sub, x, y), y); z != x {
			t.Fatalf("%d - %d + %d = %d", x, y, y, z)
		}
	}
	for c := range 65536 {
		for _, op := range []int{negate, invert} {
			if z := unary(t, op, unary(t, op, uint16(c))); int(z) != c {
				t.Fatalf("op %d twice of %d = %d", op, c, z)
			}
		}
	}
}

// holding tells how many of comparisons hold of two cells.
func holding(t *testing.T, x, y uint16, ops ...int) int {
	t.Helper()
	n := 0
	for _, op := range ops {
		switch z := binary(t, op, x, y); z {
		case yes:
			n++
		case 0:
		default:
			t.Fatalf("Binary(%d, %d, %d) = %d: no flag", op, x, y, z)
		}
	}
	return n
}

func TestOneOfThree(t *testing.T) { // P1.6
	for x, y := range pairs() {
		if n := holding(t, x, y, below, equal, above); n != 1 {
			t.Fatalf("%d of <, =, > hold of %d, %d", n, x, y)
		}
		if n := holding(t, x, y, uBelow, equal, uAbove); n != 1 {
			t.Fatalf("%d of u<, =, u> hold of %d, %d", n, x, y)
		}
		if n := holding(t, x, y, equal, unlike); n != 1 {
			t.Fatalf("%d of =, <> hold of %d, %d", n, x, y)
		}
		lesser, greater := x, y
		if binary(t, above, x, y) == yes {
			lesser, greater = y, x
		}
		if a, b := binary(t, minimum, x, y), binary(t, maximum, x, y); a != lesser || b != greater {
			t.Fatalf("of %d, %d: min %d, max %d, want %d, %d", x, y, a, b, lesser, greater)
		}
	}
}

func TestExampleReadings(t *testing.T) { // chapter 1, example 1
	for x, want := range map[uint16]int{32767: 32767, 32768: -32768, 65535: -1} {
		if n := num.Signed(x); n != want {
			t.Errorf("Signed(%d) = %d, want %d", x, n, want)
		}
	}
	for n, want := range map[int]uint16{-1: 65535, 65536: 0, -65537: 65535} {
		if x := num.Cell(n); x != want {
			t.Errorf("Cell(%d) = %d, want %d", n, x, want)
		}
	}
}

func TestExamplesOfOne(t *testing.T) { // chapter 1, example 2
	for _, c := range []struct {
		op   int
		x, z uint16
	}{
		{negate, 0, 0}, {negate, 32768, 32768}, {abs, 65535, 1}, {abs, 32768, 32768},
		{half, 65535, 65535}, {half, 65533, 65534}, {half, 3, 1}, {isNegative, 32768, 65535},
	} {
		if z := unary(t, c.op, c.x); z != c.z {
			t.Errorf("Unary(%d, %d) = %d, want %d", c.op, c.x, z, c.z)
		}
	}
}

func TestExamplesOfTwo(t *testing.T) { // chapter 1, examples 3 to 5
	for _, c := range []struct {
		op      int
		x, y, z uint16
	}{
		{div, 65529, 2, 65533}, {mod, 65529, 2, 65535}, {div, 7, 65534, 65533}, {mod, 7, 65534, 1},
		{div, 32768, 65535, 32768}, {mod, 32768, 65535, 0}, {div, 5, 0, 0}, {mod, 5, 0, 0},
		{udiv, 65529, 2, 32764}, {umod, 65529, 2, 1}, {udiv, 5, 0, 0}, {umod, 5, 0, 0},
		{mul, 300, 300, 24464}, {lshift, 1, 15, 32768}, {lshift, 1, 16, 0},
		{rshift, 65535, 15, 1}, {rshift, 65535, 16, 0}, {rshift, 65535, 65535, 0}, {lshift, 65535, 65535, 0},
		{below, 65535, 0, 65535}, {uBelow, 65535, 0, 0}, {minimum, 32768, 32767, 32768},
	} {
		if z := binary(t, c.op, c.x, c.y); z != c.z {
			t.Errorf("Binary(%d, %d, %d) = %d, want %d", c.op, c.x, c.y, z, c.z)
		}
	}
}

func TestExamplesOfNone(t *testing.T) { // chapter 1, example 5
	if z, ok := num.Unary(21, 5); z != 0 || ok {
		t.Errorf("Unary(21, 5) = %d, %v", z, ok)
	}
	for _, op := range []int{28, 64, -1} {
		if z, ok := num.Binary(op, 1, 2); z != 0 || ok {
			t.Errorf("Binary(%d, 1, 2) = %d, %v", op, z, ok)
		}
	}
}
