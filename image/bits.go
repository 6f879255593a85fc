package image

import (
	"iter"

	"burin/api"
	"burin/kind"
)

// bitsOf yields a spot's bits, the lowest first: the byte in which each one lies, and what is set of that byte.
func bitsOf(s api.Spot) iter.Seq2[int64, byte] {
	return func(yield func(int64, byte) bool) {
		for bit := s.Bit; bit < s.Bit+s.Bits; bit++ {
			if !yield(bit/8, 1<<(bit%8)) {
				return
			}
		}
	}
}

func write(image []byte, s api.Spot, v int64) {
	for at, mask := range bitsOf(s) {
		image[at] &^= mask
		if v&1 != 0 {
			image[at] |= mask
		}
		v >>= 1
	}
}

func read(image string, s api.Spot) int64 {
	worth, next := int64(0), int64(1)
	for at, mask := range bitsOf(s) {
		if image[at]&mask != 0 {
			worth |= next
		}
		next <<= 1
	}
	if kind.Unsigned(s.K) {
		return worth
	}
	above := 64 - s.Bits // pushed out and back, the highest bit fills these
	return worth << above >> above
}
