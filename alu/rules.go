package alu

import "curtilage/word"

// What an operation takes of a number, or gives of its answer: all of it, or the lowest 32 bits, with their sign or without.

func whole(w uint64) uint64 { return w }

func signed(w uint64) uint64 { return word.Sign(w, 32) }

func plain(w uint64) uint64 { return word.Bits(w, 0, 32) }

// What an operation makes of two numbers.

func sum(a, b uint64) uint64 { return a + b }

func difference(a, b uint64) uint64 { return a - b }

func and(a, b uint64) uint64 { return a & b }

func or(a, b uint64) uint64 { return a | b }

func xor(a, b uint64) uint64 { return a ^ b }

func below(a, b uint64) uint64 { return number(int64(a) < int64(b)) }

func belowPlain(a, b uint64) uint64 { return number(a < b) }

func number(holds bool) uint64 {
	if holds {
		return 1
	}
	return 0
}

// Of how far bits are moved the lowest six bits count, of 32 bits the lowest five.
const (
	far       = 63
	farNarrow = 31
)

func left(a, b uint64) uint64 { return a << (b & far) }

func right(a, b uint64) uint64 { return a >> (b & far) }

func rightSigned(a, b uint64) uint64 { return uint64(int64(a) >> (b & far)) }

func leftNarrow(a, b uint64) uint64 { return a << (b & farNarrow) }

func rightNarrow(a, b uint64) uint64 { return a >> (b & farNarrow) }

func rightSignedNarrow(a, b uint64) uint64 { return uint64(int64(a) >> (b & farNarrow)) }

func product(a, b uint64) uint64 { return a * b }

func high(a, b uint64) uint64 { return word.High(a, b, true, true) }

func highMixed(a, b uint64) uint64 { return word.High(a, b, true, false) }

func highPlain(a, b uint64) uint64 { return word.High(a, b, false, false) }

func quotient(a, b uint64) uint64 { return word.Quotient(a, b, true) }

func quotientPlain(a, b uint64) uint64 { return word.Quotient(a, b, false) }

func rest(a, b uint64) uint64 { return word.Rest(a, b, true) }

func restPlain(a, b uint64) uint64 { return word.Rest(a, b, false) }
