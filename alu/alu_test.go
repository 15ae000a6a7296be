package alu

import (
	"math"
	"math/big"
	"math/rand"
	"testing"

	"curtilage/isa"
)

const all = math.MaxUint64

func neg(n uint64) uint64 { return -n }

// numbers are words that carries, signs and shifts hang on.
func numbers() []uint64 {
	l := []uint64{0, 1, 2, 3, 7, 31, 32, 33, 63, 64, 65, 1<<31 - 1, 1 << 31, 1<<31 + 1, 1<<32 - 1, 1 << 32, 1<<63 - 1, 1 << 63, all - 1, all, neg(7), neg(1 << 31), 5<<32 + 9}
	r := rand.New(rand.NewSource(7))
	for range 25 {
		l = append(l, r.Uint64(), r.Uint64()>>r.Intn(64))
	}
	return l
}

func sign32(w uint64) uint64 { return uint64(int64(int32(uint32(w)))) }

func one(holds bool) uint64 {
	if holds {
		return 1
	}
	return 0
}

func upper(a, b *big.Int) uint64 {
	p := new(big.Int).Mul(a, b)
	p.Rsh(p, 64)
	return p.And(p, new(big.Int).SetUint64(all)).Uint64()
}

func signedBig(w uint64) *big.Int { return big.NewInt(int64(w)) }

func plainBig(w uint64) *big.Int { return new(big.Int).SetUint64(w) }

// divided is what RISC-V says of a division of numbers with signs, of so many bits.
func divided(a, b, least int64) (q, r uint64) {
	switch {
	case b == 0:
		return all, uint64(a)
	case a == least && b == -1:
		return uint64(least), 0
	}
	return uint64(a / b), uint64(a % b)
}

// wanted is what an operation reckons, as RISC-V says it.
func wanted(name string, a, b uint64) uint64 {
	a32, b32 := uint32(a), uint32(b)
	q, r := divided(int64(a), int64(b), math.MinInt64)
	qw, rw := divided(int64(int32(a32)), int64(int32(b32)), math.MinInt32)
	switch name {
	case "add", "addi":
		return a + b
	case "sub":
		return a - b
	case "and", "andi":
		return a & b
	case "or", "ori":
		return a | b
	case "xor", "xori":
		return a ^ b
	case "slt", "slti":
		return one(int64(a) < int64(b))
	case "sltu", "sltiu":
		return one(a < b)
	case "sll", "slli":
		return a << (b % 64)
	case "srl", "srli":
		return a >> (b % 64)
	case "sra", "srai":
		return uint64(int64(a) >> (b % 64))
	case "mul":
		return a * b
	case "mulh":
		return upper(signedBig(a), signedBig(b))
	case "mulhsu":
		return upper(signedBig(a), plainBig(b))
	case "mulhu":
		return upper(plainBig(a), plainBig(b))
	case "div":
		return q
	case "rem":
		return r
	case "divu":
		if b == 0 {
			return all
		}
		return a / b
	case "remu":
		if b == 0 {
			return a
		}
		return a % b
	case "addw", "addiw":
		return sign32(uint64(a32 + b32))
	case "subw":
		return sign32(uint64(a32 - b32))
	case "sllw", "slliw":
		return sign32(uint64(a32 << (b32 % 32)))
	case "srlw", "srliw":
		return sign32(uint64(a32 >> (b32 % 32)))
	case "sraw", "sraiw":
		return uint64(int64(int32(a32) >> (b32 % 32)))
	case "mulw":
		return sign32(uint64(a32 * b32))
	case "divw":
		return qw
	case "remw":
		return rw
	case "divuw":
		if b32 == 0 {
			return all
		}
		return sign32(uint64(a32 / b32))
	case "remuw":
		if b32 == 0 {
			return sign32(uint64(a32))
		}
		return sign32(uint64(a32 % b32))
	}
	panic(name)
}

func TestF1Reckon(t *testing.T) {
	for op := 1; op <= 41; op++ {
		for _, a := range numbers() {
			for _, b := range numbers() {
				if g, ok := Reckon(op, a, b); !ok || g != wanted(isa.Name(op), a, b) {
					t.Fatalf("%s of %d and %d: %d, %t, not %d", isa.Name(op), a, b, g, ok, wanted(isa.Name(op), a, b))
				}
			}
		}
	}
}

func TestF1Examples(t *testing.T) {
	for _, x := range []struct {
		name       string
		a, b, want uint64
	}{
		{"add", all, 1, 0}, {"sub", 0, 1, all}, {"addw", 1<<31 - 1, 1, neg(1 << 31)}, {"sraw", 1 << 31, 4, neg(1 << 27)},
		{"divw", 7, 0, all}, {"remuw", 1 << 31, 0, neg(1 << 31)}, {"sllw", 1, 32, 1}, {"sll", 1, 64, 1}, {"srlw", 1 << 31, 0, neg(1 << 31)},
		{"divw", 1 << 31, all, neg(1 << 31)}, {"remw", 1 << 31, all, 0}, {"div", 1 << 63, all, 1 << 63}, {"rem", 1 << 63, all, 0}, {"mulhsu", all, all, all},
	} {
		if g, ok := Reckon(isa.Find(x.name), x.a, x.b); g != x.want || !ok {
			t.Errorf("%s of %d and %d: %d, %t", x.name, x.a, x.b, g, ok)
		}
	}
}

func TestF1OfOthers(t *testing.T) {
	for _, op := range []int{0, -1, 42, 49, 55, 60, 61, 82, 83, math.MinInt, math.MaxInt} {
		if g, ok := Reckon(op, 5, 6); g != 0 || ok {
			t.Errorf("%d: %d, %t", op, g, ok)
		}
	}
}

func TestF2Holds(t *testing.T) {
	for _, a := range numbers() {
		for _, b := range numbers() {
			for name, want := range map[string]bool{
				"beq": a == b, "bne": a != b, "blt": int64(a) < int64(b), "bge": int64(a) >= int64(b), "bltu": a < b, "bgeu": a >= b,
			} {
				if g, ok := Holds(isa.Find(name), a, b); g != want || !ok {
					t.Fatalf("%s of %d and %d: %t, %t", name, a, b, g, ok)
				}
			}
		}
	}
	for op := -1; op < 90; op++ {
		if op >= 55 && op <= 60 {
			continue
		}
		if g, ok := Holds(op, 5, 5); g || ok {
			t.Errorf("%d: %t, %t", op, g, ok)
		}
	}
}

func TestF3Width(t *testing.T) {
	known := map[string]int{"lb": 1, "lh": 2, "lw": 4, "ld": 8, "lbu": 1, "lhu": 2, "lwu": 4, "sb": 1, "sh": 2, "sw": 4, "sd": 8}
	for op := -1; op < 90; op++ {
		name := isa.Name(op)
		n, signed, ok := Width(op)
		if _, there := known[name]; n != known[name] || ok != there || signed != (name == "lb" || name == "lh" || name == "lw" || name == "ld") {
			t.Errorf("%s: %d, %t, %t", name, n, signed, ok)
		}
	}
}

func TestF4QuotientAndRest(t *testing.T) {
	reckon := func(name string, a, b uint64) uint64 {
		w, _ := Reckon(isa.Find(name), a, b)
		return w
	}
	for _, a := range numbers() {
		for _, b := range numbers() {
			for _, u := range []string{"", "u"} {
				if reckon("add", reckon("mul", reckon("div"+u, a, b), b), reckon("rem"+u, a, b)) != a {
					t.Fatalf("div%s of %d by %d", u, a, b)
				}
				if reckon("addw", reckon("mulw", reckon("div"+u+"w", a, b), b), reckon("rem"+u+"w", a, b)) != sign32(a) {
					t.Fatalf("div%sw of %d by %d", u, a, b)
				}
			}
			for _, name := range []string{"addw", "subw", "sllw", "srlw", "sraw", "mulw", "divw", "divuw", "remw", "remuw"} {
				g := reckon(name, a, b)
				if g != sign32(g) || g != reckon(name, uint64(uint32(a)), sign32(b)) {
					t.Fatalf("%s of %d and %d", name, a, b)
				}
			}
		}
	}
}

func BenchmarkReckon(b *testing.B) {
	for i := range b.N {
		Reckon(29, uint64(i), 1)
	}
}
