package cart_test

import (
	"bytes"
	"encoding/binary"
	"encoding/hex"
	"hash/crc32"
	"math"
	"math/rand"
	"reflect"
	"slices"
	"strings"
	"testing"

	"wisp/api"
	"wisp/cart"
)

// The errors and sizes by the document's numbers, not by api's names: a slip in one of the two must show.
const (
	fine       = api.Errno(0)
	badMagic   = api.Errno(70)
	badSum     = api.Errno(71)
	badTable   = api.Errno(72)
	badSection = api.Errno(73)
	badCart    = api.Errno(74)

	maxCode    = 16384
	maxEffects = 8192
	maxBank    = 16384
	maxCart    = 524288
)

// sealed is b with its sum behind it, the lowest byte first.
func sealed(b []byte) []byte {
	return binary.LittleEndian.AppendUint32(bytes.Clone(b), crc32.ChecksumIEEE(b))
}

// row is one of the table, as it stands in the bytes.
type row struct {
	kind, number byte
	begin, size  uint32
}

// headed is the beginning with n, an entry and a table, whatever they are.
func headed(n byte, entry uint16, rows ...row) []byte {
	b := []byte{0x57, 0x49, 0x53, 0x50, 1, n}
	b = binary.LittleEndian.AppendUint16(b, entry)
	for _, r := range rows {
		b = append(b, r.kind, r.number)
		b = binary.LittleEndian.AppendUint32(b, r.begin)
		b = binary.LittleEndian.AppendUint32(b, r.size)
	}
	return b
}

// part is a section, whether it may be or not.
type part struct {
	kind, number byte
	data         []byte
}

func rowsOf(parts []part) []row {
	var rows []row
	at := uint32(8 + 10*len(parts))
	for _, p := range parts {
		rows = append(rows, row{p.kind, p.number, at, uint32(len(p.data))})
		at += uint32(len(p.data))
	}
	return rows
}

// imageOf is a whole image of these sections: only what they are may be wrong in it.
func imageOf(entry uint16, parts ...part) []byte {
	return tabled(entry, rowsOf(parts), parts...)
}

// tabled is one whose table may say otherwise than its sections are.
func tabled(entry uint16, rows []row, parts ...part) []byte {
	b := headed(byte(len(rows)), entry, rows...)
	for _, p := range parts {
		b = append(b, p.data...)
	}
	return sealed(b)
}

func codePart(data ...byte) part          { return part{1, 0, data} }
func bankPart(num byte, data []byte) part { return part{3, num, data} }

// effectsPart is of cells: At, In, Out of each.
func effectsPart(cells ...uint16) part {
	var data []byte
	for _, x := range cells {
		data = append(data, byte(x%256), byte(x/256))
	}
	return part{2, 0, data}
}

// model is the image of a cartridge by the chapter's table.
func model(c api.Cart) []byte {
	var cells []uint16
	for _, x := range c.Effects {
		cells = append(cells, x.At, uint16(x.In), uint16(x.Out))
	}
	parts := []part{codePart(c.Code...), effectsPart(cells...)}
	for _, b := range c.Banks {
		parts = append(parts, bankPart(byte(b.Num), b.Data))
	}
	return imageOf(c.Entry, parts...)
}

// same tells whether two cartridges are one: a list without elements may be nil or not.
func same(a, b api.Cart) bool {
	if a.Entry != b.Entry || !bytes.Equal(a.Code, b.Code) || !slices.Equal(a.Effects, b.Effects) {
		return false
	}
	return slices.EqualFunc(a.Banks, b.Banks, func(x, y api.Bank) bool {
		return x.Num == y.Num && bytes.Equal(x.Data, y.Data)
	})
}

func filled(many int, x byte) []byte { return bytes.Repeat([]byte{x}, many) }

// rising is as many effects, whose At go up by step.
func rising(many, step int) []api.Effect {
	list := make([]api.Effect, many)
	for i := range list {
		list[i] = api.Effect{At: uint16(i * step), In: i % 257, Out: (i + 100) % 257}
	}
	return list
}

// allBanks is sixteen of that many bytes.
func allBanks(size int) []api.Bank {
	var list []api.Bank
	for n := range 16 {
		list = append(list, api.Bank{Num: n, Data: filled(size, byte(n+1))})
	}
	return list
}

// greatest is the cartridge that has all that one can have.
func greatest() api.Cart {
	return api.Cart{Code: filled(maxCode, 9), Entry: 65535, Effects: rising(maxEffects, 8), Banks: allBanks(maxBank)}
}

// middling has some of everything.
func middling() api.Cart {
	return api.Cart{
		Code:    []byte{1, 0, 16, 0, 8, 0},
		Entry:   0xabcd,
		Effects: []api.Effect{{At: 2, In: 256, Out: 0}, {At: 300, In: 1, Out: 256}},
		Banks:   []api.Bank{{Num: 0, Data: []byte{5, 6, 7}}, {Num: 7}, {Num: 15, Data: []byte{0}}},
	}
}

func anyCart(random *rand.Rand) api.Cart {
	c := api.Cart{Entry: uint16(random.Intn(65536)), Code: make([]byte, 2*random.Intn(40))}
	random.Read(c.Code)
	at := random.Intn(300)
	for range random.Intn(12) {
		c.Effects = append(c.Effects, api.Effect{At: uint16(at), In: random.Intn(257), Out: random.Intn(257)})
		at += 1 + random.Intn(5000)
	}
	for n := range 16 {
		if random.Intn(4) == 0 {
			data := make([]byte, random.Intn(50))
			random.Read(data)
			c.Banks = append(c.Banks, api.Bank{Num: n, Data: data})
		}
	}
	return c
}

// manyCarts are small and great ones, with and without each of the parts.
func manyCarts() []api.Cart {
	list := []api.Cart{
		{}, greatest(), middling(),
		{Entry: 1}, {Entry: 65535}, {Code: []byte{0, 0}}, {Code: filled(maxCode, 255)},
		{Effects: []api.Effect{{At: 65535, In: 256, Out: 256}}}, {Effects: rising(maxEffects, 1)},
		{Banks: allBanks(0)}, {Banks: allBanks(maxBank)}, {Banks: []api.Bank{{Num: 15}}},
	}
	random := rand.New(rand.NewSource(7))
	for range 500 {
		list = append(list, anyCart(random))
	}
	return list
}

// wantMayBe asks all three calls of a cartridge that may be.
func wantMayBe(t *testing.T, what string, c api.Cart) {
	t.Helper()
	want := model(c)
	if e := cart.Check(c); e != fine {
		t.Errorf("%s: Check = %d, want 0", what, e)
	}
	if b, e := cart.Encode(c); e != fine || !bytes.Equal(b, want) {
		t.Errorf("%s: Encode = %d bytes, %d, want %d bytes as in the table", what, len(b), e, len(want))
	}
	sum := binary.LittleEndian.Uint32(want[len(want)-4:])
	if s, e := cart.Sum(c); e != fine || s != sum {
		t.Errorf("%s: Sum = %x, %d, want %x", what, s, e, sum)
	}
}

// wantMayNotBe asks all three of one that may not.
func wantMayNotBe(t *testing.T, what string, c api.Cart) {
	t.Helper()
	if e := cart.Check(c); e != badCart {
		t.Errorf("%s: Check = %d, want 74", what, e)
	}
	if b, e := cart.Encode(c); e != badCart || len(b) != 0 {
		t.Errorf("%s: Encode = %d bytes, %d, want none, 74", what, len(b), e)
	}
	if s, e := cart.Sum(c); e != badCart || s != 0 {
		t.Errorf("%s: Sum = %x, %d, want 0, 74", what, s, e)
	}
}

func wantHex(t *testing.T, c api.Cart, want string) []byte {
	t.Helper()
	b, err := hex.DecodeString(strings.ReplaceAll(want, " ", ""))
	if err != nil {
		t.Fatal(err)
	}
	if got, e := cart.Encode(c); e != fine || !bytes.Equal(got, b) {
		t.Errorf("Encode = % x, %d, want % x", got, e, b)
	}
	if got, e := cart.Decode(b); e != fine || !same(got, c) {
		t.Errorf("Decode = %v, %d, want %v", got, e, c)
	}
	return b
}

func wantSum(t *testing.T, c api.Cart, want uint32) {
	t.Helper()
	if s, e := cart.Sum(c); e != fine || s != want {
		t.Errorf("Sum = %x, %d, want %x", s, e, want)
	}
}

func TestExample1(t *testing.T) { // 7.2, 7.3, 7.4
	b := wantHex(t, api.Cart{}, "57 49 53 50 01 02 00 00 01 00 1c 00 00 00 00 00 00 00 02 00 1c 00 00 00 00 00 00 00 03 45 7e 97")
	if len(b) != 32 {
		t.Errorf("%d bytes, want 32", len(b))
	}
	wantSum(t, api.Cart{}, 0x977e4503)
}

func TestExample2(t *testing.T) { // 7.2, 7.3, 7.4
	c := api.Cart{Code: []byte{1, 0, 16, 0}, Effects: []api.Effect{{}}}
	b := wantHex(t, c, "57 49 53 50 01 02 00 00 01 00 1c 00 00 00 04 00 00 00 02 00 20 00 00 00 06 00 00 00 01 00 10 00 00 00 00 00 00 00 f3 4c ac 62")
	if len(b) != 42 {
		t.Errorf("%d bytes, want 42", len(b))
	}
	wantSum(t, c, 0x62ac4cf3)
}

func TestBytesByHand(t *testing.T) { // 7.2: entry, effects and banks, the lowest byte first
	c := api.Cart{
		Code:    []byte{9, 8},
		Entry:   0xabcd,
		Effects: []api.Effect{{At: 0x0102, In: 256, Out: 3}},
		Banks:   []api.Bank{{Num: 2, Data: []byte{7, 6, 5}}, {Num: 15}},
	}
	want := "57495350 01 04 cdab" + // four sections: the table ends at 48
		"01 00 30000000 02000000" +
		"02 00 32000000 06000000" +
		"03 02 38000000 03000000" +
		"03 0f 3b000000 00000000" +
		"0908 0201 0001 0300 070605"
	body, _ := hex.DecodeString(strings.ReplaceAll(want, " ", ""))
	got, e := cart.Encode(c)
	if e != fine || !bytes.Equal(got, sealed(body)) {
		t.Errorf("Encode = % x, %d, want % x and the sum", got, e, body)
	}
}

func TestExample4(t *testing.T) { // 7.1
	wantMayNotBe(t, "a Code of three bytes", api.Cart{Code: []byte{1, 2, 3}})
	wantMayNotBe(t, "In 257", api.Cart{Effects: []api.Effect{{In: 257}}})
	wantMayNotBe(t, "In -1", api.Cart{Effects: []api.Effect{{In: -1}}})
	wantMayNotBe(t, "a bank 16", api.Cart{Banks: []api.Bank{{Num: 16}}})
	wantMayNotBe(t, "effects that don't rise", api.Cart{Effects: []api.Effect{{At: 4}, {At: 2}}})
}

func TestCodeLengths(t *testing.T) { // 7.1, 7.2, 7.4: even, and none above 16384
	for _, many := range []int{0, 2, 4, 16382, 16384} {
		wantMayBe(t, "even", api.Cart{Code: filled(many, 7)})
	}
	for _, many := range []int{1, 3, 16383, 16385, 16386, 16387, 32768, 65536, 1 << 20} {
		wantMayNotBe(t, "odd, or too long", api.Cart{Code: filled(many, 7)})
	}
}

func TestEntries(t *testing.T) { // any address, with and without code
	for _, at := range []uint16{0, 1, 2, 255, 256, 16383, 16384, 32768, 65535} {
		wantMayBe(t, "an entry", api.Cart{Entry: at})
		wantMayBe(t, "an entry", api.Cart{Entry: at, Code: []byte{1, 2}})
	}
}

func TestManyEffects(t *testing.T) { // 7.1: 8192 and one more, all else right
	wantMayBe(t, "8191", api.Cart{Effects: rising(8191, 8)})
	wantMayBe(t, "8192", api.Cart{Effects: rising(8192, 7)})
	wantMayNotBe(t, "8193", api.Cart{Effects: rising(8193, 7)})
	wantMayNotBe(t, "65536", api.Cart{Effects: rising(65536, 1)})
}

func TestPlacesOfEffects(t *testing.T) { // 7.1: At rises by one at least, at each place in the list
	for _, c := range []struct {
		at  []uint16
		may bool
	}{
		{[]uint16{0}, true}, {[]uint16{65535}, true}, {[]uint16{0, 1}, true}, {[]uint16{0, 65535}, true},
		{[]uint16{65534, 65535}, true}, {[]uint16{3, 4, 5, 1000}, true}, {[]uint16{32767, 32768}, true},
		{[]uint16{0, 0}, false}, {[]uint16{5, 5}, false}, {[]uint16{5, 4}, false}, {[]uint16{65535, 0}, false},
		{[]uint16{1, 2, 2}, false}, {[]uint16{1, 2, 1}, false}, {[]uint16{2, 1, 3}, false}, {[]uint16{1, 1, 2}, false},
		{[]uint16{65535, 65535}, false}, {[]uint16{32768, 32767}, false},
	} {
		var list []api.Effect
		for _, at := range c.at {
			list = append(list, api.Effect{At: at})
		}
		if c.may {
			wantMayBe(t, "At", api.Cart{Effects: list})
		} else {
			wantMayNotBe(t, "At", api.Cart{Effects: list})
		}
	}
}

func TestHeightsOfEffects(t *testing.T) { // 7.1: In and Out, the first and the last effect's
	for _, n := range []int{0, 1, 128, 255, 256} {
		wantMayBe(t, "In", api.Cart{Effects: []api.Effect{{In: n}, {At: 1, In: n}}})
		wantMayBe(t, "Out", api.Cart{Effects: []api.Effect{{Out: n}, {At: 1, Out: n}}})
	}
	for _, n := range []int{math.MinInt, -65536, -256, -1, 257, 258, 512, 65535, 65536, 65536 + 256, 1 << 32, math.MaxInt} {
		wantMayNotBe(t, "In", api.Cart{Effects: []api.Effect{{In: n}, {At: 1}}})
		wantMayNotBe(t, "Out", api.Cart{Effects: []api.Effect{{Out: n}, {At: 1}}})
		wantMayNotBe(t, "the last In", api.Cart{Effects: []api.Effect{{}, {At: 1, In: n}}})
		wantMayNotBe(t, "the last Out", api.Cart{Effects: []api.Effect{{}, {At: 1, Out: n}}})
	}
}

func TestNumbersOfBanks(t *testing.T) { // 7.1
	for _, c := range []struct {
		nums []int
		may  bool
	}{
		{[]int{0}, true}, {[]int{1}, true}, {[]int{15}, true}, {[]int{0, 1}, true}, {[]int{0, 15}, true}, {[]int{3, 4, 9}, true},
		{[]int{0, 1, 2, 3, 4, 5, 6, 7, 8, 9, 10, 11, 12, 13, 14, 15}, true},
		{[]int{-1}, false}, {[]int{16}, false}, {[]int{-16}, false}, {[]int{256}, false}, {[]int{257}, false}, {[]int{1 << 32}, false},
		{[]int{math.MinInt}, false}, {[]int{math.MaxInt}, false}, {[]int{0, 16}, false}, {[]int{-1, 0}, false},
		{[]int{0, 0}, false}, {[]int{15, 15}, false}, {[]int{2, 1}, false}, {[]int{15, 0}, false}, {[]int{1, 2, 2}, false}, {[]int{1, 3, 2}, false},
		{[]int{0, 1, 2, 3, 4, 5, 6, 7, 8, 9, 10, 11, 12, 13, 14, 15, 16}, false},
		{[]int{0, 1, 2, 3, 4, 5, 6, 7, 8, 9, 10, 11, 12, 13, 14, 15, 15}, false},
		{[]int{math.MinInt, math.MaxInt}, false},
	} {
		var list []api.Bank
		for i, n := range c.nums {
			list = append(list, api.Bank{Num: n, Data: filled(i, 3)})
		}
		if c.may {
			wantMayBe(t, "bank numbers", api.Cart{Banks: list})
		} else {
			wantMayNotBe(t, "bank numbers", api.Cart{Banks: list})
		}
	}
}

func TestLengthsOfBanks(t *testing.T) { // 7.1: the first's and the last's
	for _, many := range []int{0, 1, 3, 16383, 16384} {
		wantMayBe(t, "a bank", api.Cart{Banks: []api.Bank{{Num: 1, Data: filled(many, 3)}, {Num: 2, Data: filled(many, 4)}}})
	}
	for _, many := range []int{16385, 16386, 32768, 1 << 20} {
		wantMayNotBe(t, "the first bank", api.Cart{Banks: []api.Bank{{Num: 1, Data: filled(many, 3)}, {Num: 2}}})
		wantMayNotBe(t, "the last bank", api.Cart{Banks: []api.Bank{{Num: 1}, {Num: 2, Data: filled(many, 3)}}})
	}
}

func TestOneFaultAmongGood(t *testing.T) { // 7.1: in a cartridge that has all it can have, one slip alone
	for what, slip := range map[string]func(c *api.Cart){
		"code":            func(c *api.Cart) { c.Code = append(c.Code, 0, 0) },
		"odd code":        func(c *api.Cart) { c.Code = c.Code[1:] },
		"an effect more":  func(c *api.Cart) { c.Effects = append(c.Effects, api.Effect{At: 65535}) },
		"the last In":     func(c *api.Cart) { c.Effects[maxEffects-1].In = 257 },
		"the last Out":    func(c *api.Cart) { c.Effects[maxEffects-1].Out = -1 },
		"the last At":     func(c *api.Cart) { c.Effects[maxEffects-1].At = c.Effects[maxEffects-2].At },
		"the first At":    func(c *api.Cart) { c.Effects[0].At = c.Effects[1].At },
		"a bank more":     func(c *api.Cart) { c.Banks = append(c.Banks, api.Bank{Num: 16}) },
		"the last bank":   func(c *api.Cart) { c.Banks[15].Data = filled(maxBank+1, 0) },
		"the last number": func(c *api.Cart) { c.Banks[15].Num = 14 },
	} {
		c := greatest()
		slip(&c)
		wantMayNotBe(t, what, c)
	}
}

func TestGreatest(t *testing.T) { // 7.2: never more than api.MaxCart
	b, e := cart.Encode(greatest())
	if want := 8 + 180 + 16384 + 6*8192 + 16*16384 + 4; e != fine || len(b) != want || len(b) > maxCart {
		t.Errorf("Encode = %d bytes, %d, want %d", len(b), e, want)
	}
}

func TestEmptyLists(t *testing.T) { // R4: nil or without elements
	none := api.Cart{Code: []byte{}, Effects: []api.Effect{}, Banks: []api.Bank{}}
	wantMayBe(t, "empty lists", none)
	a, _ := cart.Encode(none)
	b, _ := cart.Encode(api.Cart{})
	if !bytes.Equal(a, b) {
		t.Errorf("empty lists: % x, none: % x", a, b)
	}
	x, _ := cart.Encode(api.Cart{Banks: []api.Bank{{Num: 3, Data: []byte{}}}})
	y, _ := cart.Encode(api.Cart{Banks: []api.Bank{{Num: 3}}})
	if !bytes.Equal(x, y) {
		t.Errorf("an empty bank: % x, one of nothing: % x", x, y)
	}
}

func TestManyCarts(t *testing.T) { // 7.1, 7.2, 7.4, 7.5: the bytes are those of the table, and the way back gives the cartridge
	for i, c := range manyCarts() {
		wantMayBe(t, "a cartridge", c)
		b, _ := cart.Encode(c)
		if back, e := cart.Decode(b); e != fine || !same(back, c) {
			t.Fatalf("cartridge %d: Decode(Encode) = %d, and is not the same", i, e)
		}
	}
}

func TestOneForm(t *testing.T) { // 7.5: other cartridges have other bytes
	seen := map[string]int{}
	list := manyCarts()
	for i, c := range list {
		b, _ := cart.Encode(c)
		if j, ok := seen[string(b)]; ok && !same(list[j], c) {
			t.Errorf("cartridges %d and %d have the same bytes", i, j)
		}
		seen[string(b)] = i
	}
}

// over sets all that a list has, spare room too.
func over[T any](list []T, x T) {
	all := list[:cap(list)]
	for i := range all {
		all[i] = x
	}
}

// roomy is a list with spare room behind it in which x stands.
func roomy[T any](list []T, x T) []T {
	all := slices.Clone(list)
	for range 20 {
		all = append(all, x)
	}
	return all[:len(list)]
}

func roomyCart() api.Cart {
	c := middling()
	c.Code = roomy(c.Code, 77)
	c.Effects = roomy(c.Effects, api.Effect{At: 7, In: 77, Out: 777})
	for i := range c.Banks {
		c.Banks[i].Data = roomy(c.Banks[i].Data, 77)
	}
	c.Banks = roomy(c.Banks, api.Bank{Num: 77})
	return c
}

// whole is all that the lists of a cartridge have, spare room too.
func whole(c api.Cart) []any {
	all := []any{c.Entry, slices.Clone(c.Code[:cap(c.Code)]), slices.Clone(c.Effects[:cap(c.Effects)])}
	for _, b := range c.Banks[:cap(c.Banks)] {
		all = append(all, b.Num, slices.Clone(b.Data[:cap(b.Data)]))
	}
	return all
}

func overCart(c api.Cart) {
	over(c.Code, 99)
	over(c.Effects, api.Effect{At: 9, In: 99, Out: 999})
	for _, b := range c.Banks {
		over(b.Data, 99)
	}
	over(c.Banks, api.Bank{Num: 99})
}

func TestWhatIsHandedInStays(t *testing.T) { // R3: not changed, spare room too, and not kept
	c := roomyCart()
	was := whole(c)
	cart.Check(c)
	b, _ := cart.Encode(c)
	cart.Sum(c)
	if !reflect.DeepEqual(whole(c), was) {
		t.Errorf("the cartridge has become %v", c)
	}
	overCart(c)
	if !bytes.Equal(b, model(middling())) {
		t.Errorf("Encode's answer follows what was handed in: % x", b)
	}
	in := roomy(model(middling()), 88)
	all := slices.Clone(in[:cap(in)])
	d, e := cart.Decode(in)
	if !bytes.Equal(in[:cap(in)], all) {
		t.Error("Decode has changed its bytes")
	}
	over(in, 66)
	if e != fine || !same(d, middling()) {
		t.Errorf("Decode's answer follows what was handed in: %v, %d", d, e)
	}
}

func TestEncodeIsNew(t *testing.T) { // R3: of one cartridge, and of the greatest, which is one bank's bytes for the most part
	for _, c := range []api.Cart{middling(), greatest(), {}} {
		want := model(c)
		a, _ := cart.Encode(c)
		b, _ := cart.Encode(c)
		over(a, 99)
		if !bytes.Equal(b, want) || !bytes.Equal(model(c), want) {
			t.Error("Encode's answer shares memory with another, or with the cartridge")
		}
	}
}

func TestDecodeIsNew(t *testing.T) { // R3: an answer apart from the bytes and from another answer
	b := model(middling())
	was := bytes.Clone(b)
	x, _ := cart.Decode(b)
	y, _ := cart.Decode(b)
	overCart(x)
	if !bytes.Equal(b, was) || !same(y, middling()) {
		t.Error("Decode's answer shares memory with the bytes, or with another answer")
	}
}

func TestListsOfAnAnswerAreApart(t *testing.T) { // R3: no two of them share memory, spare room too
	c := middling()
	for which := range 2 + len(c.Banks) {
		d, _ := cart.Decode(model(c))
		want := middling()
		switch which {
		case 0:
			over(d.Code, 99)
			want.Code = filled(len(c.Code), 99)
		case 1:
			over(d.Effects, api.Effect{At: 9})
			want.Effects = []api.Effect{{At: 9}, {At: 9}}
		default:
			over(d.Banks[which-2].Data, 99)
			want.Banks[which-2].Data = filled(len(c.Banks[which-2].Data), 99)
		}
		if !same(d, want) {
			t.Errorf("list %d shares memory with another: %v", which, d)
		}
	}
}
