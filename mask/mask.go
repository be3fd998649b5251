// Package mask computes with words of 64 bits without decisions or indices that
// depend on their values. The mask of a condition is the word of ones if the
// condition holds, and the word of zeros otherwise. It is layer 1; see
// shared/doc/01-mask.md.
package mask

import (
	"math/bits"
	"slices"
)

// FromBit returns the mask of whether the lowest bit of a word is 1.
func FromBit(bit uint64) uint64 { return -(bit & 1) }

// IsZero returns the mask of whether all words of l are 0, which holds if there are none.
func IsZero(l ...uint64) uint64 {
	var all uint64
	for _, word := range l {
		all |= word
	}
	// Of a word and its negation, one has the highest bit, unless the word is 0.
	return FromBit(^(all | -all) >> 63)
}

// Equal returns the mask of whether a equals b.
func Equal(a, b uint64) uint64 { return IsZero(a ^ b) }

// Less returns the mask of whether a is less than b.
func Less(a, b uint64) uint64 {
	_, borrow := bits.Sub64(a, b, 0)
	return FromBit(borrow)
}

// Choose returns the bits of a where m has ones, and those of b where it has zeros.
func Choose(m, a, b uint64) uint64 { return m&a | ^m&b }

// Table returns the element of l with the index i, or 0 if there is none.
func Table(l []uint64, i uint64) uint64 {
	var found uint64
	// Reading every element hides which of them is asked for.
	for k, word := range slices.All(l) {
		found |= Equal(uint64(k), i) & word
	}
	return found
}
