package isa

import (
	"curtilage/api"
	"curtilage/word"
)

// Encode is an instruction's number.
func Encode(x api.Inst) (uint32, api.Errno) {
	if !is(x.Op) {
		return 0, api.ErrArg
	}
	w := bare[x.Op-1]
	kind := kindOf(w)
	if !registersFit(x, kind) || !immFits(x.Imm, kind, shift(w)) {
		return 0, api.ErrArg
	}
	// A register that the kind does not have is 0 here, and so leaves what stands in its place.
	w |= uint32(x.Rd)<<7 | uint32(x.Rs1)<<15 | uint32(x.Rs2)<<20
	return w | immBits(x.Imm, kind, shift(w)), api.OK
}

// registersFit tells whether an instruction's registers are such as its kind has.
func registersFit(x api.Inst, kind int) bool {
	rd, rs1, rs2 := has(kind)
	return fits(x.Rd, rd) && fits(x.Rs1, rs1) && fits(x.Rs2, rs2)
}

// fits tells whether a register's number is one, or 0, if there is no such register.
func fits(n int, there bool) bool { return n == 0 || there && n > 0 && n < 32 }

// has tells which registers a kind has.
func has(kind int) (rd, rs1, rs2 bool) {
	switch kind {
	case api.KindR:
		return true, true, true
	case api.KindI, api.KindLoad, api.KindOne:
		return true, true, false
	case api.KindSave, api.KindIf, api.KindTwo:
		return false, true, true
	case api.KindHigh, api.KindJump:
		return true, false, false
	}
	return false, false, false
}

// immFits tells whether n is an Imm that a kind may have, and, of a shift, so many bits.
func immFits(n int64, kind, shift int) bool {
	switch kind {
	case api.KindI, api.KindLoad, api.KindSave:
		if shift > 0 {
			return n >= 0 && n < 1<<shift
		}
		return word.Fits(n, 12)
	case api.KindIf:
		return n%2 == 0 && word.Fits(n, 13)
	case api.KindHigh:
		return n%4096 == 0 && word.Fits(n, 32)
	case api.KindJump:
		return n%2 == 0 && word.Fits(n, 21)
	}
	return n == 0
}

// immBits is n, where its bits stand in the number of an instruction of a kind.
func immBits(n int64, kind, shift int) uint32 {
	w := uint32(n)
	switch kind {
	case api.KindI, api.KindLoad:
		return w << 20
	case api.KindSave:
		return field(w, 5, 7)<<25 | field(w, 0, 5)<<7
	case api.KindIf:
		return field(w, 12, 1)<<31 | field(w, 5, 6)<<25 | field(w, 1, 4)<<8 | field(w, 11, 1)<<7
	case api.KindHigh:
		return w
	case api.KindJump:
		return field(w, 20, 1)<<31 | field(w, 1, 10)<<21 | field(w, 11, 1)<<20 | field(w, 12, 8)<<12
	}
	return 0
}
