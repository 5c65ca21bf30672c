package cart

import (
	"bytes"

	"wisp/api"
	"wisp/pack"
)

// Decode tells the cartridge of bytes.
func Decode(b []byte) (api.Cart, api.Errno) {
	if !bytes.HasPrefix(b, []byte(beginning)) {
		return api.Cart{}, api.ErrMagic
	}
	if !sumFits(b) {
		return api.Cart{}, api.ErrSum
	}
	r := pack.NewReader(b[len(beginning):tableAt])
	many, entry := int(r.Byte()), r.Cell()
	sections, ok := readTable(b[:len(b)-sumSize], many)
	if !ok {
		return api.Cart{}, api.ErrTable
	}
	return readSections(entry, sections)
}

func sumFits(b []byte) bool {
	if len(b) < tableAt+sumSize || len(b) > api.MaxCart {
		return false
	}
	end := len(b) - sumSize
	return pack.NewReader(b[end:]).Word() == pack.Sum(b[:end])
}

// readTable tells the sections as pieces of body, so that whatever length a row says takes no memory; false, if the table may not be.
func readTable(body []byte, many int) ([]section, bool) {
	at := tableAt + rowSize*many
	if many < aheadOfBanks || many > aheadOfBanks+api.Banks || at > len(body) {
		return nil, false
	}
	r := pack.NewReader(body[tableAt:at])
	sections := make([]section, many)
	last := -1
	for i := range sections {
		kind, number, begin, size := r.Byte(), r.Byte(), r.Word(), r.Word()
		if !rowMayBe(i, kind, int(number), last) || begin != uint32(at) || size > uint32(len(body)-at) {
			return nil, false
		}
		if kind == kindBank {
			last = int(number)
		}
		sections[i] = section{kind, number, body[at : at+int(size)]}
		at += int(size)
	}
	return sections, at == len(body)
}

// rowMayBe tells whether a section of that kind and number stands in row i, behind bank last.
func rowMayBe(i int, kind byte, number, last int) bool {
	switch i {
	case 0:
		return kind == kindCode && number == 0
	case 1:
		return kind == kindEffects && number == 0
	}
	return kind == kindBank && number > last && number < api.Banks
}

// readSections gives up at the first section that may not be.
func readSections(entry uint16, sections []section) (c api.Cart, e api.Errno) {
	defer func() {
		if refused := recover(); refused != nil {
			c, e = api.Cart{}, refused.(api.Errno)
		}
	}()
	c.Entry = entry
	c.Code = readCode(sections[0].bytes)
	c.Effects = readEffects(sections[1].bytes)
	for _, s := range sections[aheadOfBanks:] {
		c.Banks = append(c.Banks, api.Bank{Num: int(s.number), Data: readData(s.bytes)})
	}
	return c, api.OK
}

// must ends the reader, if a section has not what it may have.
func must(may bool) {
	if !may {
		panic(api.ErrSection)
	}
}

func readCode(b []byte) []byte {
	must(codeMayBe(b))
	return bytes.Clone(b)
}

func readEffects(b []byte) []api.Effect {
	must(len(b)%effectSize == 0 && len(b) <= effectSize*mostEffects)
	r := pack.NewReader(b)
	effects := make([]api.Effect, len(b)/effectSize)
	for i := range effects {
		effects[i] = api.Effect{At: r.Cell(), In: int(r.Cell()), Out: int(r.Cell())}
	}
	must(effectsMayBe(effects))
	return effects
}

func readData(b []byte) []byte {
	must(dataMayBe(b))
	return bytes.Clone(b)
}
