package sources

import "strings"

// slips are words that make a program fault, or go another way, where they are put in.
const slips = "drop dup >r r> r@ i j exit halt yield 2dup 2drop 0 1 plot nip + ! @ begin again until if then else while repeat do loop"

// Any is a source that goes on for long, or one with some words put in, taken out or changed, or one of any sort: all are well formed, which a function tells of those with changes.
func Any(d Dice, wellFormed func(src string) bool) string {
	switch d.Intn(5) {
	case 0, 1:
		return NewLively(d).Program(d.Intn(9))
	case 2:
		return New(d).Some()
	}
	list := strings.Fields(slips)
	l := NewLively(d)
	src := l.Program(d.Intn(9))
	for range 6 {
		words := l.Words
		for range 1 + d.Intn(2) {
			words = Changed(d, one(d, list...), words...)
		}
		if changed := strings.Join(words, " "); wellFormed(changed) {
			return changed
		}
	}
	return src
}
