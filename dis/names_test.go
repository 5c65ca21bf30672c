package dis_test

import (
	"fmt"
	"slices"
	"strconv"
	"strings"
	"testing"

	"wisp/api"
	"wisp/carts"
	"wisp/dis"
	"wisp/sources"
	"wisp/trees"
)

func TestNames(t *testing.T) { // P23.3: main at the entry, w and k with four digits, the letters small
	for _, x := range []struct{ src, want string }{
		{": a ; : main ;", ": w0080 ; : main ;"},
		{": main ; : a main ;", ": main ; : w0084 main ;"},
		{": a ; : main a ; : b main a main ;", ": w0080 ; : main w0080 ; : w008a main w0080 main ;"},
		{"1 constant main1 : w0080 main1 ; : main w0080 ;", "1 constant k0080 : w0084 k0080 ; : main w0084 ;"},
		{": k0084 ; 5 constant w0080 : main k0084 w0080 ;", ": w0080 ; 5 constant k0084 : main w0080 k0084 ;"},
		{"variable v : main v ;", "32768 constant k0080 : main k0080 ;"},
		{"variable v 300 buffer b 0 buffer n variable u : main v b n u ;", "32768 constant k0080 32770 constant k0084 33070 constant k0088 33070 constant k008c : main k0080 k0084 k0088 k008c ;"},
		{"16384 buffer b 0 buffer e : main b e ;", "32768 constant k0080 49152 constant k0084 : main k0080 k0084 ;"},
		{"7 constant a 7 constant b : main b a b ;", "7 constant k0080 7 constant k0084 : main k0084 k0080 k0084 ;"},
		{"0 constant a 65535 constant b 1 constant c 2 constant d : main a b c d ;", "0 constant k0080 65535 constant k0084 1 constant k0088 2 constant k008c : main k0080 k0084 k0088 k008c ;"},
		{"32768 constant a variable v : main a v ;", "32768 constant k0080 32768 constant k0084 : main k0080 k0084 ;"},
		{"128 constant a : main a 128 ;", "128 constant k0080 : main k0080 128 ;"},
		{": main ; 1 constant c", ": main ; 1 constant k0084"},
		{": a ; : b a if a then ; : main b ;", ": w0080 ; : w0084 w0080 if w0080 then ; : main w0084 ;"},
	} {
		c := cartOf(t, x.src)
		wantText(t, x.src, c, x.want)
		wantAnswer(t, x.src, c, back(t, parsed(t, x.src)))
	}
}

func TestNamesOfFarWords(t *testing.T) { // P23.3: four digits wherever a definition lies
	var w sources.Writer
	want := ""
	for i := range 500 {
		name := "x" + strconv.Itoa(i)
		at := four(uint16(128 + 8*i))
		if i%2 == 0 {
			w.Constant(name, uint16(i))
			w.Word(name + "w")
			want += fmt.Sprintf("%d constant k%s : w%s ; ", i, at, four(uint16(132+8*i)))
		} else {
			w.Word(name, sources.Primitive(9), sources.Primitive(12))
			want += ": w" + at + " nop dup ; "
		}
		if i == 330 {
			break
		}
	}
	w.Word("main", sources.Name("x0"), sources.Name("x329"), sources.Name("x330w"))
	want += ": main k0080 w" + four(128+8*329) + " w" + four(132+8*330) + " ;"
	wantText(t, "many words", written(t, &w), want)
	var far sources.Writer
	far.Word("long", slices.Repeat([]sources.Part{sources.Primitive(9)}, 8110)...)
	far.Constant("k", 9)
	far.Word("a", sources.Name("k"))
	far.Word("main", sources.Name("a"), sources.Name("long"))
	wantText(t, "the last cells", written(t, &far), ": w0080 "+sources.Times(8110, "nop")+"; 9 constant k3fe0 : w3fe4 k3fe0 ; : main w3fe4 w0080 ;")
}

func TestEachWordAsMain(t *testing.T) { // P23.2, P23.3: the entry alone tells which one is main
	c := cartOf(t, ": a ; : b a ; : c b a ; : main c b a ;")
	for entry, want := range map[uint16]string{
		128: ": main ; : w0084 main ; : w008a w0084 main ; : w0092 w008a w0084 main ;",
		132: ": w0080 ; : main w0080 ; : w008a main w0080 ; : w0092 w008a main w0080 ;",
		138: ": w0080 ; : w0084 w0080 ; : main w0084 w0080 ; : w0092 main w0084 w0080 ;",
		146: ": w0080 ; : w0084 w0080 ; : w008a w0084 w0080 ; : main w008a w0084 w0080 ;",
	} {
		c.Entry = entry
		wantText(t, "another entry", c, want)
	}
}

func TestBanks(t *testing.T) { // P23.2: just the cartridge's, with data and without; where a source may not have such there is no program
	full := make([]byte, 16384)
	for i := range full {
		full[i] = byte(i * 7)
	}
	all := func(numbers ...int) []api.Bank {
		var l []api.Bank
		for _, n := range numbers {
			l = append(l, api.Bank{Num: n, Data: slices.Repeat([]byte{byte(n), 255}, n%3)})
		}
		return l
	}
	for what, banks := range map[string][]api.Bank{
		"none":            nil,
		"an empty list":   {},
		"one":             all(2),
		"the first":       all(0),
		"the last":        all(15),
		"all":             all(0, 1, 2, 3, 4, 5, 6, 7, 8, 9, 10, 11, 12, 13, 14, 15),
		"rising":          all(1, 5, 14),
		"without data":    {{Num: 3}, {Num: 4, Data: []byte{}}},
		"a full one":      {{Num: 3, Data: full}},
		"full and others": {{Num: 0}, {Num: 3, Data: full}, {Num: 4, Data: []byte{0}}},
	} {
		c := at128(1, 16)
		c.Banks = banks
		wantAnswer(t, what, c, api.Program{Defs: []api.Def{{Kind: 1, Name: "main"}}, Banks: banks})
	}
	src := ": main ; 9 bank { 1 } 3 bank { } 15 bank { 0 } 5 bank { 7 8 } 0 bank { }"
	wantText(t, "in another order in the source", cartOf(t, src), src)
	for what, banks := range map[string][]api.Bank{
		"falling":              all(2, 1),
		"twice":                all(2, 2),
		"falling at the end":   all(1, 5, 3),
		"twice without data":   {{Num: 3}, {Num: 3}},
		"a bank 16":            all(16),
		"a bank -1":            {{Num: -1}},
		"a bank 256":           {{Num: 256}},
		"17 banks":             append(all(0, 1, 2, 3, 4, 5, 6, 7, 8, 9, 10, 11, 12, 13, 14, 15), api.Bank{Num: 15}),
		"a bank of 16385":      {{Num: 3, Data: append(full, 1)}},
		"far too long a bank":  {{Num: 3, Data: make([]byte, 100000)}},
		"too long behind fine": {{Num: 3, Data: full}, {Num: 4, Data: append(full, 1)}},
	} {
		c := at128(1, 16)
		c.Banks = banks
		wantNone(t, what, c)
	}
	for what, c := range carts.Refused() {
		c.Code, c.Entry = at128(1, 16).Code, 128
		if strings.Contains(what, "bank") || what == "all that is wrong" {
			wantNone(t, what, c)
		} else {
			wantText(t, what, c, ": main ;")
		}
	}
}

func TestDeclaredEffects(t *testing.T) { // P23.2: not looked at, those that may not be neither
	for _, effects := range [][]api.Effect{nil, {}, {{At: 128}}, {{At: 128, In: 9, Out: 9}}, {{At: 7}, {At: 7}}, {{In: -1, Out: 999}}} {
		c := cartOf(t, ": a 1 ; : main a drop ; 2 bank { 1 2 }")
		c.Effects = effects
		wantText(t, "effects", c, ": w0080 1 ; : main w0080 drop ; 2 bank { 1 2 }")
	}
}

func TestManyDefinitions(t *testing.T) { // P23.2: 512, and one more
	for _, many := range []int{510, 511, 512, 513, 1000, 4000} {
		constants := slices.Repeat([]uint16{2, 7}, many-1)
		words := slices.Repeat([]uint16{1, 16}, many-1)
		for _, ahead := range [][]uint16{constants, words, append(slices.Clone(constants[:40]), words[40:]...)} {
			main := []uint16{1, 128, 16}
			last := carts.Of(uint16(128+2*len(ahead)), append(slices.Clone(ahead), main...)...)
			first := carts.Of(128, append([]uint16{1, 18, 16}, ahead...)...)
			if many > 512 {
				wantNone(t, "too many", last)
				wantNone(t, "too many", first)
				continue
			}
			for _, c := range []api.Cart{last, first} {
				if p, e := dis.Program(c); e != fine || len(p.Defs) != many {
					t.Errorf("P23.2: %d definitions: %d, %d", many, len(p.Defs), e)
				}
				wantAsModel(t, "many definitions", c)
			}
		}
	}
}

func TestCodeOfTheGreatestLength(t *testing.T) { // P23.2: 16384 bytes, a cell more, and far more, where an address would come round
	code := func(bytes int, end ...uint16) api.Cart {
		cells := append(carts.Threads(), 1)
		for len(cells)+len(end) < bytes/2 {
			cells = append(cells, 18)
		}
		return api.Cart{Code: carts.Code(append(cells, end...)...), Entry: 128}
	}
	word := ": main " + sources.Times(8126, "nop")
	wantText(t, "16384 bytes", code(16384, 16), word+";")
	wantText(t, "an if up to the end", code(16384, 10, 16382, 18, 16), ": main "+sources.Times(8123, "nop")+"if nop then ;")
	wantText(t, "a loop from the beginning", code(16384, 8, 130, 16), ": main begin "+sources.Times(8124, "nop")+"again ;")
	wantText(t, "a cell less", code(16382, 16), ": main "+sources.Times(8125, "nop")+";")
	wantText(t, "a constant at the end", code(16384, 16, 2, 5), ": main "+sources.Times(8124, "nop")+"; 5 constant k3ffc")
	for _, bytes := range []int{16386, 16388, 20000, 65534, 65536, 65538, 65664, 131072, 200000} {
		wantNone(t, "too long", code(bytes, 16))
		wantNone(t, "too long, of constants", api.Cart{Code: carts.Code(append(carts.Threads(), slices.Repeat([]uint16{2, 2}, bytes/4)...)...), Entry: 128})
	}
	for _, many := range []int{4097, 16384, 20000} { // where nothing but its length tells that it is none
		wantNone(t, "constants alone", api.Cart{Code: carts.Code(slices.Repeat([]uint16{2, 2}, many)...), Entry: 128})
		wantNone(t, "words alone", api.Cart{Code: carts.Code(slices.Repeat([]uint16{1, 16}, many)...), Entry: 128})
	}
	for _, bytes := range []int{128, 130, 16382, 16384, 65536} {
		c := code(bytes, 16)
		c.Code = append(c.Code, 16)
		wantNone(t, "half a cell at the end", c)
	}
	round := code(65536+130, 16)
	copy(round.Code[65536:], round.Code[:130])
	wantNone(t, "the threads again behind 65535", round)
}

func TestGreatestPrograms(t *testing.T) { // P23.2, P23.5: those that just meet a limit come back, those that pass one have no cartridge
	for _, p := range trees.JustTaken() {
		wantBack(t, "a program at the limits", p)
	}
}
