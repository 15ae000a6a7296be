package isa

import (
	"curtilage/api"
	"curtilage/word"
)

// Decode is a number's instruction.
func Decode(w uint32) (api.Inst, api.Errno) {
	for i := range bare {
		if b := bare[i]; code(b) == code(w) && w&^own(b) == b {
			return read(i+1, b, w), api.OK
		}
	}
	return api.Inst{}, api.ErrCode
}

// own are the bits that are an instruction's own, of the operation whose number is b.
func own(b uint32) uint32 {
	const (
		rd   = 31 << 7
		rs1  = 31 << 15
		rs2  = 31 << 20
		high = 127 << 25
	)
	switch kindOf(b) {
	case api.KindR:
		return rd | rs1 | rs2
	case api.KindI, api.KindLoad:
		if n := shift(b); n > 0 {
			return rd | rs1 | (1<<n-1)<<20
		}
		return rd | rs1 | rs2 | high
	case api.KindSave, api.KindIf:
		return rd | rs1 | rs2 | high
	case api.KindHigh, api.KindJump:
		return ^uint32(127)
	case api.KindOne:
		return rd | rs1
	case api.KindTwo:
		return rs1 | rs2
	}
	return 0
}

// read is the instruction that w is, of operation op, whose number is b.
func read(op int, b, w uint32) api.Inst {
	kind := kindOf(b)
	x := api.Inst{Op: op, Imm: imm(w, kind, shift(b))}
	rd, rs1, rs2 := has(kind)
	if rd {
		x.Rd = int(field(w, 7, 5))
	}
	if rs1 {
		x.Rs1 = int(field(w, 15, 5))
	}
	if rs2 {
		x.Rs2 = int(field(w, 20, 5))
	}
	return x
}

// imm is the Imm of w, an instruction of a kind: what immBits put there.
func imm(w uint32, kind, shift int) int64 {
	switch kind {
	case api.KindI, api.KindLoad:
		if shift > 0 {
			return int64(field(w, 20, shift))
		}
		return signed(field(w, 20, 12), 12)
	case api.KindSave:
		return signed(field(w, 25, 7)<<5|field(w, 7, 5), 12)
	case api.KindIf:
		return signed(field(w, 31, 1)<<12|field(w, 7, 1)<<11|field(w, 25, 6)<<5|field(w, 8, 4)<<1, 13)
	case api.KindHigh:
		return signed(field(w, 12, 20)<<12, 32)
	case api.KindJump:
		return signed(field(w, 31, 1)<<20|field(w, 12, 8)<<12|field(w, 20, 1)<<11|field(w, 21, 10)<<1, 21)
	}
	return 0
}

// signed is a number of so many bits with its sign.
func signed(w uint32, many int) int64 { return int64(word.Sign(uint64(w), many)) }
