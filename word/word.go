// Package word is layer 1, words of 64 bits: see shared/doc/01-word.md.
package word

import "math/bits"

// Bits are some of a word's.
func Bits(w uint64, from, many int) uint64 {
	if from < 0 || from > 63 || many < 1 || many > 64-from {
		return 0
	}
	return w >> from & lowest(many)
}

// lowest has the lowest many bits set; at 64 the shift leaves 0, and less 1 that is all of them.
func lowest(many int) uint64 { return uint64(1)<<many - 1 }

// Sign is a word of fewer bits with a sign.
func Sign(w uint64, many int) uint64 {
	if many < 1 || many > 64 {
		return 0
	}
	return uint64(int64(w<<(64-many)) >> (64 - many))
}

// Fits tells whether a number has so few bits.
func Fits(n int64, many int) bool {
	return many >= 1 && many <= 64 && Sign(uint64(n), many) == uint64(n)
}

// High is a product's upper half.
func High(a, b uint64, first, second bool) uint64 {
	high, _ := bits.Mul64(a, b)
	// A number with a sign, below 0, is 2^64 less than the one without: the other one times that is too much.
	if first && negative(a) {
		high -= b
	}
	if second && negative(b) {
		high -= a
	}
	return high
}

func negative(w uint64) bool { return w>>63 == 1 }

// Quotient is one.
func Quotient(a, b uint64, signed bool) uint64 {
	if b == 0 {
		return lowest(64)
	}
	if !signed {
		return a / b
	}
	q := size(a) / size(b)
	if negative(a) != negative(b) {
		return -q
	}
	return q
}

// Rest is what is left.
func Rest(a, b uint64, signed bool) uint64 {
	if b == 0 {
		return a
	}
	if !signed {
		return a % b
	}
	r := size(a) % size(b)
	if negative(a) {
		return -r
	}
	return r
}

// size is how far a number with a sign is from 0; of -2^63 that is 2^63, which a word without a sign has room for.
func size(w uint64) uint64 {
	if negative(w) {
		return -w
	}
	return w
}

// Little are a word's bytes.
func Little(w uint64, n int) []byte {
	if n < 1 || n > 8 {
		return nil
	}
	b := make([]byte, n)
	for i := range n {
		b[i] = byte(w >> (8 * i))
	}
	return b
}

// Of is the word of bytes.
func Of(b []byte) uint64 {
	w := uint64(0)
	for i := range min(len(b), 8) {
		w |= uint64(b[i]) << (8 * i)
	}
	return w
}
