package word

import (
	"bytes"
	"math"
	"math/big"
	"math/rand"
	"testing"
)

const all = math.MaxUint64

func neg(n uint64) uint64 { return -n }

// edges are words that carries, signs and wraps hang on.
func edges() []uint64 {
	l := []uint64{0, 1, 2, 3, 5, 7, 127, 128, 255, 256, 1 << 31, 1<<31 - 1, 1 << 32, 1<<32 - 1, 1 << 62, 1<<63 - 1, 1 << 63, 1<<63 + 1, all - 1, all, neg(7)}
	r := rand.New(rand.NewSource(1))
	for range 40 {
		l = append(l, r.Uint64(), r.Uint64()>>r.Intn(64))
	}
	return l
}

func TestA1Bits(t *testing.T) {
	for _, x := range []struct {
		w          uint64
		from, many int
		want       uint64
	}{
		{240, 4, 3, 7}, {240, 4, 4, 15}, {all, 0, 64, all}, {1 << 63, 63, 1, 1}, {all, 1, 63, all >> 1},
		{all, 1, 64, 0}, {all, 64, 1, 0}, {all, -1, 1, 0}, {all, 0, 0, 0}, {all, 0, 65, 0}, {all, 63, 2, 0},
		{all, 0, -1, 0}, {all, math.MaxInt, 1, 0}, {all, 1, math.MaxInt, 0}, {all, math.MinInt, math.MinInt, 0},
	} {
		if g := Bits(x.w, x.from, x.many); g != x.want {
			t.Errorf("Bits(%d, %d, %d) is %d, not %d", x.w, x.from, x.many, g, x.want)
		}
	}
}

func TestA1Sign(t *testing.T) {
	for _, x := range []struct {
		w    uint64
		many int
		want uint64
	}{
		{255, 8, all}, {127, 8, 127}, {128, 8, neg(128)}, {256 + 5, 8, 5}, {1, 1, all}, {0, 1, 0}, {2, 1, 0},
		{1 << 63, 64, 1 << 63}, {all, 64, all}, {5, 0, 0}, {all, 65, 0}, {all, -1, 0}, {1 << 31, 32, neg(1 << 31)},
	} {
		if g := Sign(x.w, x.many); g != x.want {
			t.Errorf("Sign(%d, %d) is %d, not %d", x.w, x.many, g, x.want)
		}
	}
}

func TestA1Fits(t *testing.T) {
	for _, x := range []struct {
		n    int64
		many int
		want bool
	}{
		{-128, 8, true}, {127, 8, true}, {128, 8, false}, {-129, 8, false}, {0, 1, true}, {-1, 1, true}, {1, 1, false}, {-2, 1, false},
		{math.MinInt64, 64, true}, {math.MaxInt64, 64, true}, {math.MaxInt64, 63, false}, {math.MinInt64, 63, false},
		{0, 0, false}, {0, 65, false}, {0, -1, false}, {2047, 12, true}, {2048, 12, false}, {-2048, 12, true}, {-2049, 12, false},
	} {
		if g := Fits(x.n, x.many); g != x.want {
			t.Errorf("Fits(%d, %d) is %t", x.n, x.many, g)
		}
	}
}

func TestA2High(t *testing.T) {
	number := func(w uint64, signed bool) *big.Int {
		if signed {
			return big.NewInt(int64(w))
		}
		return new(big.Int).SetUint64(w)
	}
	for _, a := range edges() {
		for _, b := range edges() {
			for i := range 4 {
				first, second := i&1 == 1, i&2 == 2
				p := new(big.Int).Mul(number(a, first), number(b, second))
				p.Rsh(p, 64)
				want := p.And(p, new(big.Int).SetUint64(all)).Uint64()
				if g := High(a, b, first, second); g != want {
					t.Fatalf("High(%d, %d, %t, %t) is %d, not %d", a, b, first, second, g, want)
				}
			}
		}
	}
	if High(1<<63, 2, false, false) != 1 || High(all, all, true, true) != 0 {
		t.Error("the examples")
	}
}

func TestA3Division(t *testing.T) {
	for _, x := range []struct {
		a, b   uint64
		signed bool
		q, r   uint64
	}{
		{neg(7), 2, true, neg(3), neg(1)}, {7, neg(2), true, neg(3), 1}, {neg(7), neg(2), true, 3, neg(1)}, {7, 2, true, 3, 1},
		{neg(7), 2, false, 1<<63 - 4, 1}, {7, neg(2), false, 0, 7},
		{5, 0, true, all, 5}, {5, 0, false, all, 5}, {neg(5), 0, true, all, neg(5)}, {0, 0, true, all, 0},
		{1 << 63, all, true, 1 << 63, 0}, {1 << 63, all, false, 0, 1 << 63}, {1 << 63, 1, true, 1 << 63, 0}, {1 << 63, 1 << 63, true, 1, 0}, {3, 1 << 63, true, 0, 3},
	} {
		if q, r := Quotient(x.a, x.b, x.signed), Rest(x.a, x.b, x.signed); q != x.q || r != x.r {
			t.Errorf("%d by %d (%t) is %d, %d", x.a, x.b, x.signed, q, r)
		}
	}
}

func TestA4Little(t *testing.T) {
	for _, x := range []struct {
		w    uint64
		n    int
		want []byte
	}{
		{258, 3, []byte{2, 1, 0}}, {0x0102030405060708, 8, []byte{8, 7, 6, 5, 4, 3, 2, 1}}, {258, 1, []byte{2}},
		{1, 0, nil}, {1, 9, nil}, {1, -1, nil}, {1, math.MinInt, nil},
	} {
		if g := Little(x.w, x.n); !bytes.Equal(g, x.want) {
			t.Errorf("Little(%d, %d) is %v", x.w, x.n, g)
		}
	}
}

func TestA4Of(t *testing.T) {
	for _, x := range []struct {
		b    []byte
		want uint64
	}{
		{[]byte{2, 1}, 258}, {nil, 0}, {[]byte{}, 0}, {[]byte{1, 0, 0, 0, 0, 0, 0, 128}, 1<<63 + 1}, {[]byte{1, 0, 0, 0, 0, 0, 0, 128, 9, 9}, 1<<63 + 1},
	} {
		if g := Of(x.b); g != x.want {
			t.Errorf("Of(%v) is %d", x.b, g)
		}
	}
}

func TestA5WhatWasTakenApartIsPutTogether(t *testing.T) {
	for _, a := range edges() {
		for n := 1; n <= 8; n++ {
			if Of(Little(a, n)) != Bits(a, 0, 8*n) {
				t.Fatalf("%d in %d bytes", a, n)
			}
		}
		for _, b := range edges() {
			for _, signed := range []bool{false, true} {
				if q, r := Quotient(a, b, signed), Rest(a, b, signed); q*b+r != a {
					t.Fatalf("%d by %d (%t): %d, %d", a, b, signed, q, r)
				}
			}
		}
		for many := 1; many < 64; many++ {
			if Bits(a, 0, many)|Bits(a, many, 64-many)<<many != a || Bits(Sign(a, many), 0, many) != Bits(a, 0, many) || !Fits(int64(Sign(a, many)), many) {
				t.Fatalf("%d, %d bits", a, many)
			}
		}
	}
}
