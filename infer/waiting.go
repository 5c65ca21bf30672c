package infer

import "math/bits"

const (
	addresses = 1 << 16
	wordBits  = 64
)

// waiting is a set of addresses, a bit each: of a set of bits the lowest is soon found.
type waiting [addresses / wordBits]uint64

func (w *waiting) add(at uint16) {
	w[at/wordBits] |= 1 << (at % wordBits)
}

// take takes the lowest address, and tells whether there was one.
func (w *waiting) take() (uint16, bool) {
	for i, word := range w {
		if word != 0 {
			lowest := bits.TrailingZeros64(word)
			w[i] &^= 1 << lowest
			return uint16(i*wordBits + lowest), true
		}
	}
	return 0, false
}
