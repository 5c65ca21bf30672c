package sources

import (
	"slices"
	"strings"
)

func one(d Dice, list ...string) string { return list[d.Intn(len(list))] }

// Gap is blanks, line ends and comments of both kinds that hold two words apart.
func Gap(d Dice) string {
	blank := func() string { return one(d, " ", "\n", "\t", "\r", "\r\n", "   ") }
	s := blank()
	for range d.Intn(4) {
		switch d.Intn(3) {
		case 0:
			s += blank()
		case 1:
			s += "(" + blank() + one(d, "", "a remark ", ": x ;", "any \\ ( thing\n\x00\xff 70000") + ")"
		default:
			s += "\\" + one(d, "", " ; : x", "\tany ( thing ) \xc3\xa9", "\x00(") + "\n"
		}
	}
	return s
}

// Dressed is words with such gaps ahead of them, between them and behind them.
func Dressed(d Dice, words ...string) string {
	var b strings.Builder
	for _, w := range words {
		b.WriteString(Gap(d) + w)
	}
	return b.String() + Gap(d)
}

// Changed is words with that one put in, or in another's place, or with one of them taken out.
func Changed(d Dice, with string, words ...string) []string {
	if len(words) == 0 {
		return []string{with}
	}
	changed := slices.Clone(words)
	i := d.Intn(len(words))
	switch d.Intn(3) {
	case 0:
		changed[i] = with
	case 1:
		changed = slices.Insert(changed, i, with)
	default:
		changed = slices.Delete(changed, i, i+1)
	}
	return changed
}
