package isa

import (
	"math"
	"math/rand"
	"testing"

	"curtilage/api"
)

// rows are the document's table of operations.
var rows = []struct {
	name                     string
	kind, code, f3, f7, bits int
}{
	{"add", api.KindR, 51, 0, 0, 0},
	{"sub", api.KindR, 51, 0, 32, 0},
	{"sll", api.KindR, 51, 1, 0, 0},
	{"slt", api.KindR, 51, 2, 0, 0},
	{"sltu", api.KindR, 51, 3, 0, 0},
	{"xor", api.KindR, 51, 4, 0, 0},
	{"srl", api.KindR, 51, 5, 0, 0},
	{"sra", api.KindR, 51, 5, 32, 0},
	{"or", api.KindR, 51, 6, 0, 0},
	{"and", api.KindR, 51, 7, 0, 0},
	{"mul", api.KindR, 51, 0, 1, 0},
	{"mulh", api.KindR, 51, 1, 1, 0},
	{"mulhsu", api.KindR, 51, 2, 1, 0},
	{"mulhu", api.KindR, 51, 3, 1, 0},
	{"div", api.KindR, 51, 4, 1, 0},
	{"divu", api.KindR, 51, 5, 1, 0},
	{"rem", api.KindR, 51, 6, 1, 0},
	{"remu", api.KindR, 51, 7, 1, 0},
	{"addw", api.KindR, 59, 0, 0, 0},
	{"subw", api.KindR, 59, 0, 32, 0},
	{"sllw", api.KindR, 59, 1, 0, 0},
	{"srlw", api.KindR, 59, 5, 0, 0},
	{"sraw", api.KindR, 59, 5, 32, 0},
	{"mulw", api.KindR, 59, 0, 1, 0},
	{"divw", api.KindR, 59, 4, 1, 0},
	{"divuw", api.KindR, 59, 5, 1, 0},
	{"remw", api.KindR, 59, 6, 1, 0},
	{"remuw", api.KindR, 59, 7, 1, 0},
	{"addi", api.KindI, 19, 0, 0, 0},
	{"slti", api.KindI, 19, 2, 0, 0},
	{"sltiu", api.KindI, 19, 3, 0, 0},
	{"xori", api.KindI, 19, 4, 0, 0},
	{"ori", api.KindI, 19, 6, 0, 0},
	{"andi", api.KindI, 19, 7, 0, 0},
	{"slli", api.KindI, 19, 1, 0, 6},
	{"srli", api.KindI, 19, 5, 0, 6},
	{"srai", api.KindI, 19, 5, 16, 6},
	{"addiw", api.KindI, 27, 0, 0, 0},
	{"slliw", api.KindI, 27, 1, 0, 5},
	{"srliw", api.KindI, 27, 5, 0, 5},
	{"sraiw", api.KindI, 27, 5, 32, 5},
	{"lb", api.KindLoad, 3, 0, 0, 0},
	{"lh", api.KindLoad, 3, 1, 0, 0},
	{"lw", api.KindLoad, 3, 2, 0, 0},
	{"ld", api.KindLoad, 3, 3, 0, 0},
	{"lbu", api.KindLoad, 3, 4, 0, 0},
	{"lhu", api.KindLoad, 3, 5, 0, 0},
	{"lwu", api.KindLoad, 3, 6, 0, 0},
	{"clc", api.KindLoad, 15, 2, 0, 0},
	{"sb", api.KindSave, 35, 0, 0, 0},
	{"sh", api.KindSave, 35, 1, 0, 0},
	{"sw", api.KindSave, 35, 2, 0, 0},
	{"sd", api.KindSave, 35, 3, 0, 0},
	{"csc", api.KindSave, 35, 4, 0, 0},
	{"beq", api.KindIf, 99, 0, 0, 0},
	{"bne", api.KindIf, 99, 1, 0, 0},
	{"blt", api.KindIf, 99, 4, 0, 0},
	{"bge", api.KindIf, 99, 5, 0, 0},
	{"bltu", api.KindIf, 99, 6, 0, 0},
	{"bgeu", api.KindIf, 99, 7, 0, 0},
	{"lui", api.KindHigh, 55, 0, 0, 0},
	{"auipcc", api.KindHigh, 23, 0, 0, 0},
	{"cjal", api.KindJump, 111, 0, 0, 0},
	{"cjalr", api.KindLoad, 103, 0, 0, 0},
	{"ecall", api.KindNone, 115, 0, 0, 0},
	{"ebreak", api.KindNone, 115, 0, 1, 0},
	{"csetbounds", api.KindR, 91, 0, 8, 0},
	{"candperm", api.KindR, 91, 0, 13, 0},
	{"cseal", api.KindR, 91, 0, 11, 0},
	{"cunseal", api.KindR, 91, 0, 12, 0},
	{"csetaddr", api.KindR, 91, 0, 16, 0},
	{"cincaddr", api.KindR, 91, 0, 17, 0},
	{"ctestsubset", api.KindR, 91, 0, 32, 0},
	{"cinvoke", api.KindTwo, 91, 0, 126, 0},
	{"cgetperm", api.KindOne, 91, 0, 0, 0},
	{"cgettype", api.KindOne, 91, 0, 1, 0},
	{"cgetbase", api.KindOne, 91, 0, 2, 0},
	{"cgetlen", api.KindOne, 91, 0, 3, 0},
	{"cgettag", api.KindOne, 91, 0, 4, 0},
	{"cmove", api.KindOne, 91, 0, 10, 0},
	{"ccleartag", api.KindOne, 91, 0, 11, 0},
	{"cgetaddr", api.KindOne, 91, 0, 15, 0},
}

// written is an instruction's number, put together from the document's table, field by field.
func written(x api.Inst) uint32 {
	r := rows[x.Op-1]
	w, n := uint32(r.code)|uint32(r.f3)<<12, uint32(x.Imm)
	rd, rs1, rs2, f7 := uint32(x.Rd)<<7, uint32(x.Rs1)<<15, uint32(x.Rs2)<<20, uint32(r.f7)
	bit := func(from, to int) uint32 { return n >> from & 1 << to }
	switch r.kind {
	case api.KindR:
		return w | rd | rs1 | rs2 | f7<<25
	case api.KindI:
		if r.bits == 6 {
			return w | rd | rs1 | n<<20 | f7<<26
		} else if r.bits == 5 {
			return w | rd | rs1 | n<<20 | f7<<25
		}
		return w | rd | rs1 | n<<20
	case api.KindLoad:
		return w | rd | rs1 | n<<20
	case api.KindSave:
		for i := range 5 {
			w |= bit(i, 7+i)
		}
		for i := 5; i < 12; i++ {
			w |= bit(i, 20+i)
		}
		return w | rs1 | rs2
	case api.KindIf:
		for i := 1; i < 5; i++ {
			w |= bit(i, 7+i)
		}
		for i := 5; i < 11; i++ {
			w |= bit(i, 20+i)
		}
		return w | rs1 | rs2 | bit(11, 7) | bit(12, 31)
	case api.KindHigh:
		return uint32(r.code) | rd | n
	case api.KindJump:
		w = uint32(r.code) | rd | bit(20, 31) | bit(11, 20)
		for i := 1; i < 11; i++ {
			w |= bit(i, 20+i)
		}
		for i := 12; i < 20; i++ {
			w |= bit(i, i)
		}
		return w
	case api.KindOne:
		return w | rd | rs1 | f7<<20 | 127<<25
	case api.KindTwo:
		return w | rs1 | rs2 | f7<<25 | 1<<7
	}
	return w | f7<<20
}

// bounds are the least and the greatest Imm of an operation, and what it is a multiple of.
func bounds(op int) (least, most, step int64) {
	switch r := rows[op-1]; r.kind {
	case api.KindI, api.KindLoad, api.KindSave:
		if r.bits > 0 {
			return 0, 1<<r.bits - 1, 1
		}
		return -2048, 2047, 1
	case api.KindIf:
		return -4096, 4094, 2
	case api.KindHigh:
		return -1 << 31, 1<<31 - 4096, 4096
	case api.KindJump:
		return -1 << 20, 1<<20 - 2, 2
	}
	return 0, 0, 1
}

// registers tells which registers a kind has.
func registers(kind int) (rd, rs1, rs2 bool) {
	rd = kind != api.KindSave && kind != api.KindIf && kind != api.KindNone && kind != api.KindTwo
	rs1 = kind != api.KindHigh && kind != api.KindJump && kind != api.KindNone
	rs2 = kind == api.KindR || kind == api.KindSave || kind == api.KindIf || kind == api.KindTwo
	return rd, rs1, rs2
}

// instructions are some of an operation's, with its least and its greatest operands among them.
func instructions(op int) []api.Inst {
	least, most, step := bounds(op)
	imms := []int64{least, least + step, 0, step, most - step, most}
	r := rand.New(rand.NewSource(int64(op)))
	for range 20 {
		imms = append(imms, least+r.Int63n((most-least)/step+1)*step)
	}
	rd, rs1, rs2 := registers(rows[op-1].kind)
	pick := func(there bool) int {
		if !there {
			return 0
		}
		return []int{0, 1, 2, 15, 16, 30, 31}[r.Intn(7)]
	}
	var l []api.Inst
	for _, n := range imms {
		if n >= least && n <= most {
			l = append(l, api.Inst{Op: op, Rd: pick(rd), Rs1: pick(rs1), Rs2: pick(rs2), Imm: n})
		}
	}
	return l
}

func TestD1Names(t *testing.T) {
	if len(rows) != 82 {
		t.Fatal(len(rows))
	}
	for i, r := range rows {
		if Name(i+1) != r.name || Find(r.name) != i+1 || Kind(i+1) != r.kind {
			t.Errorf("%d is %s, %s is %d, of kind %d", i+1, Name(i+1), r.name, Find(r.name), Kind(i+1))
		}
	}
	for _, op := range []int{0, -1, 83, math.MinInt, math.MaxInt} {
		if Name(op) != "" || Kind(op) != 0 {
			t.Errorf("%d is %s, of kind %d", op, Name(op), Kind(op))
		}
	}
	for _, name := range []string{"", "ADD", "add ", "addx", "nop"} {
		if Find(name) != 0 {
			t.Errorf("%s is %d", name, Find(name))
		}
	}
}

func TestD2Encode(t *testing.T) {
	for op := 1; op <= 82; op++ {
		for _, x := range instructions(op) {
			if w, e := Encode(x); e != api.OK || w != written(x) {
				t.Errorf("%s %+v is %08x, not %08x (%d)", Name(op), x, w, written(x), e)
			}
		}
	}
}

func TestD2Examples(t *testing.T) {
	for w, x := range map[uint32]api.Inst{
		0x00500093: {Op: Find("addi"), Rd: 1, Imm: 5}, 0x0020b423: {Op: Find("sd"), Rs1: 1, Rs2: 2, Imm: 8},
		0xfe208ee3: {Op: Find("beq"), Rs1: 1, Rs2: 2, Imm: -4}, 0x102081db: {Op: Find("csetbounds"), Rd: 3, Rs1: 1, Rs2: 2},
		0x00000073: {Op: Find("ecall")}, 0x00100073: {Op: Find("ebreak")}, 0x43f0d093: {Op: Find("srai"), Rd: 1, Rs1: 1, Imm: 63},
		0x800000b7: {Op: Find("lui"), Rd: 1, Imm: -1 << 31}, 0x8000006f: {Op: Find("cjal"), Imm: -1 << 20},
	} {
		if g, e := Encode(x); g != w || e != api.OK {
			t.Errorf("%+v is %08x, not %08x", x, g, w)
		}
		if g, e := Decode(w); g != x || e != api.OK {
			t.Errorf("%08x is %+v, not %+v", w, g, x)
		}
	}
}

func TestD2WrongOperands(t *testing.T) {
	wrong := func(x api.Inst) {
		t.Helper()
		if w, e := Encode(x); w != 0 || e != api.ErrArg {
			t.Errorf("%s %+v: %08x, %d", Name(x.Op), x, w, e)
		}
	}
	for _, op := range []int{0, -1, 83, math.MinInt, math.MaxInt} {
		wrong(api.Inst{Op: op})
	}
	for op := 1; op <= 82; op++ {
		rd, rs1, rs2 := registers(rows[op-1].kind)
		for _, n := range []int{-1, 32, math.MinInt, math.MaxInt, 1 << 40} {
			wrong(api.Inst{Op: op, Rd: n})
			wrong(api.Inst{Op: op, Rs1: n})
			wrong(api.Inst{Op: op, Rs2: n})
		}
		if !rd {
			wrong(api.Inst{Op: op, Rd: 1})
		}
		if !rs1 {
			wrong(api.Inst{Op: op, Rs1: 1})
		}
		if !rs2 {
			wrong(api.Inst{Op: op, Rs2: 1})
		}
		least, most, step := bounds(op)
		for _, n := range []int64{least - step, most + step, math.MinInt64, math.MaxInt64, 1 << 32, -1 << 32, least - 1, most + 1} {
			wrong(api.Inst{Op: op, Imm: n})
		}
		for n := int64(1); n < step; n = n*2 + 1 {
			wrong(api.Inst{Op: op, Imm: n})
			wrong(api.Inst{Op: op, Imm: -n})
		}
	}
}

func TestD3Decode(t *testing.T) {
	for op := 1; op <= 82; op++ {
		for _, x := range instructions(op) {
			if g, e := Decode(written(x)); g != x || e != api.OK {
				t.Errorf("%08x is %+v, not %+v (%d)", written(x), g, x, e)
			}
		}
	}
	for _, w := range []uint32{
		0, 0xffffffff, 1, 0x13 | 1<<12 | 1<<26, 0x13 | 5<<12 | 1<<31, 0x1b | 1<<12 | 1<<25, 0x1b | 1<<12 | 1<<26, 0x1b | 5<<12 | 33<<25, 0x1b | 2<<12,
		0x73 | 1<<7, 0x73 | 1<<15, 0x73 | 2<<20, 0x73 | 1<<12, 0x5b | 126<<25, 0x5b | 126<<25 | 2<<7, 0x5b | 127<<25 | 5<<20, 0x5b, 0x5b | 8<<25 | 1<<12,
		0x33 | 2<<25, 0x33 | 32<<25 | 1<<12, 0x3b | 1<<25 | 1<<12, 0x03 | 7<<12, 0x0f, 0x23 | 5<<12, 0x63 | 2<<12, 0x67 | 1<<12, 0x102081d9,
	} {
		if x, e := Decode(w); x != (api.Inst{}) || e != api.ErrCode {
			t.Errorf("%08x: %+v, %d", w, x, e)
		}
	}
}

func TestD4BothWays(t *testing.T) {
	r := rand.New(rand.NewSource(4))
	known := 0
	for f := range uint32(1 << 17) {
		w := f>>10<<25 | f>>7&7<<12 | f&127 | r.Uint32()&0x01ff8f80
		for _, w := range []uint32{w, w &^ 0x01f00000, w &^ 0x01ff8f80, w&^0xf80 | 0x80, w&^0x01f00000 | uint32(r.Intn(16))<<20} {
			x, e := Decode(w)
			if e == api.OK {
				known++
				if g, e := Encode(x); g != w || e != api.OK || written(x) != w {
					t.Fatalf("%08x is %+v, which is %08x", w, x, g)
				}
			} else if e != api.ErrCode || x != (api.Inst{}) {
				t.Fatal(w, x, e)
			} else if looksKnown(w) {
				t.Fatalf("%08x is an instruction", w)
			}
		}
	}
	if known < 1000 {
		t.Error("hardly any number was an instruction", known)
	}
}

// looksKnown asks every operation whether one of its instructions is w: from w's own fields one is made, and written.
func looksKnown(w uint32) bool {
	for i, r := range rows {
		x := api.Inst{Op: i + 1}
		rd, rs1, rs2 := registers(r.kind)
		if rd {
			x.Rd = int(w >> 7 & 31)
		}
		if rs1 {
			x.Rs1 = int(w >> 15 & 31)
		}
		if rs2 {
			x.Rs2 = int(w >> 20 & 31)
		}
		switch s := int32(w); r.kind {
		case api.KindI, api.KindLoad:
			x.Imm = int64(s >> 20)
			if r.bits > 0 {
				x.Imm = int64(w >> 20 & (1<<r.bits - 1))
			}
		case api.KindSave:
			x.Imm = int64(s>>25<<5 | s>>7&31)
		case api.KindIf:
			x.Imm = int64(s>>31<<12 | s>>7&1<<11 | s>>25&63<<5 | s>>8&15<<1)
		case api.KindHigh:
			x.Imm = int64(s &^ 4095)
		case api.KindJump:
			x.Imm = int64(s>>31<<20 | s>>12&255<<12 | s>>20&1<<11 | s>>21&1023<<1)
		}
		if written(x) == w {
			return true
		}
	}
	return false
}
