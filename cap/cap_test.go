package cap

import (
	"math"
	"math/rand"
	"testing"

	"curtilage/api"
)

const top = math.MaxUint64

var r = Root(100)

// at is a capability of bytes from to end, that stands at at.
func at(from, end, at uint64) api.Cap {
	return api.Cap{Base: from, Top: end, At: at, Perms: api.AllPerms, Type: -1, Tag: true}
}

func without(c api.Cap) api.Cap {
	c.Tag = false
	return c
}

func typed(c api.Cap, typ int) api.Cap {
	c.Type = typ
	return c
}

func perms(c api.Cap, n int) api.Cap {
	c.Perms = n
	return c
}

func same(t *testing.T, what string, got, want api.Cap) {
	t.Helper()
	if got != want {
		t.Errorf("%s: %+v, not %+v", what, got, want)
	}
}

func TestB1Made(t *testing.T) {
	same(t, "Null", Null(), api.Cap{Type: -1})
	same(t, "Int", Int(7), api.Cap{At: 7, Type: -1})
	same(t, "Int of all bits", Int(top), api.Cap{At: top, Type: -1})
	same(t, "Root", Root(100), api.Cap{Top: 100, Perms: 255, Type: -1, Tag: true})
	same(t, "Clear", Clear(r), api.Cap{Top: 100, Perms: 255, Type: -1})
	same(t, "Clear of one that is sealed", Clear(typed(r, 5)), without(typed(r, 5)))
	same(t, "Clear of none", Clear(Int(3)), Int(3))
}

func TestB2Move(t *testing.T) {
	same(t, "inside", Move(r, 10), at(0, 100, 10))
	same(t, "outside", Move(r, 1000), at(0, 100, 1000))
	same(t, "there and back", Move(Move(r, top), 0), r)
	same(t, "sealed", Move(typed(r, 0), 10), without(typed(at(0, 100, 10), 0)))
	same(t, "sealed, where it is", Move(typed(r, 63), 0), without(typed(r, 63)))
	same(t, "integer", Move(Int(3), 9), Int(9))
}

func TestB3Bound(t *testing.T) {
	same(t, "inside", Bound(Move(r, 10), 5), at(10, 15, 10))
	same(t, "all", Bound(r, 100), r)
	same(t, "to the end", Bound(Move(r, 95), 5), at(95, 100, 95))
	same(t, "nothing, at the end", Bound(Move(r, 100), 0), at(100, 100, 100))
	same(t, "nothing, behind the end", Bound(Move(r, 101), 0), without(at(0, 100, 101)))
	same(t, "beyond the end", Bound(Move(r, 98), 5), without(at(0, 100, 98)))
	same(t, "ahead of the beginning", Bound(at(10, 20, 9), 3), without(at(10, 20, 9)))
	same(t, "round at 2^64", Bound(Move(Root(top), 5), top-2), without(at(0, top, 5)))
	same(t, "up to the last", Bound(Move(Root(top), 5), top-5), at(5, top, 5))
	same(t, "sum of 2^64", Bound(Move(Root(top), top), 1), without(at(0, top, top)))
	same(t, "sealed", Bound(typed(r, 4), 5), without(typed(r, 4)))
	same(t, "without Tag", Bound(without(r), 5), without(r))
}

func TestB3And(t *testing.T) {
	same(t, "fewer", And(r, 5), perms(r, 5))
	same(t, "none", And(r, 0), perms(r, 0))
	same(t, "not more", And(perms(r, 6), 3), perms(r, 2))
	same(t, "bits above", And(perms(r, 6), 256+2), perms(r, 2))
	same(t, "below 0", And(r, -1), r)
	same(t, "sealed", And(typed(r, 4), 5), without(perms(typed(r, 4), 5)))
	same(t, "sealed, and all", And(typed(r, 4), 255), without(typed(r, 4)))
	same(t, "integer", And(Int(5), 5), Int(5))
}

func TestB4Seal(t *testing.T) {
	same(t, "sealed", Seal(r, Move(r, 3)), typed(r, 3))
	same(t, "greatest type", Seal(r, Move(r, 63)), typed(r, 63))
	for what, by := range map[string]api.Cap{
		"type 64": Move(r, 64), "without Tag": without(r), "sealed": typed(r, 1), "without MaySeal": perms(r, 255-api.MaySeal),
		"at its Top": at(0, 5, 5), "below its Base": at(5, 9, 4), "number": Int(3),
	} {
		same(t, "by "+what, Seal(r, by), without(r))
	}
	same(t, "at its Base", Seal(r, perms(at(5, 6, 5), api.MaySeal)), typed(r, 5))
	same(t, "twice", Seal(typed(r, 2), r), without(typed(r, 2)))
	same(t, "none", Seal(Int(4), r), Int(4))
}

func TestB4Unseal(t *testing.T) {
	same(t, "opened", Unseal(Seal(r, Move(r, 3)), Move(r, 3)), r)
	same(t, "by MayUnseal alone", Unseal(typed(r, 3), perms(at(3, 4, 3), api.MayUnseal)), r)
	for what, by := range map[string]api.Cap{
		"another type": Move(r, 4), "without Tag": without(Move(r, 3)), "sealed": typed(Move(r, 3), 3),
		"without MayUnseal": perms(Move(r, 3), 255-api.MayUnseal), "at its Top": at(0, 3, 3), "below its Base": at(4, 9, 3),
	} {
		same(t, "by "+what, Unseal(typed(r, 3), by), without(typed(r, 3)))
	}
	same(t, "not sealed", Unseal(r, r), without(r))
	same(t, "not sealed, by all bits", Unseal(r, Move(Root(top), top)), without(r))
	same(t, "without Tag", Unseal(without(typed(r, 3)), Move(r, 3)), without(typed(r, 3)))
}

func TestB5Check(t *testing.T) {
	few := perms(at(10, 20, 10), api.MayLoad|api.MayRun)
	for i, x := range []struct {
		c     api.Cap
		n     uint64
		perms int
		want  api.Errno
	}{
		{few, 10, api.MayLoad, api.OK}, {few, 0, 0, api.OK}, {few, 10, 5, api.OK},
		{without(typed(few, 3)), 99, 2, api.ErrTag}, {typed(few, 3), 99, 2, api.ErrSeal}, {typed(few, 0), 1, 1, api.ErrSeal},
		{few, 99, api.MayStore, api.ErrPerm}, {few, 1, api.MayLoad | api.MayStore, api.ErrPerm}, {few, 1, 256, api.ErrPerm}, {few, 1, -1, api.ErrPerm},
		{few, 11, api.MayLoad, api.ErrBound}, {Move(few, 9), 1, 1, api.ErrBound}, {Move(few, 20), 0, 1, api.OK}, {Move(few, 20), 1, 1, api.ErrBound},
		{Move(few, 21), 0, 1, api.ErrBound}, {few, top, 1, api.ErrBound}, {Move(Root(top), top), 1, 1, api.ErrBound}, {Move(Root(top), top), 0, 1, api.OK},
		{Int(5), 1, 1, api.ErrTag},
		{Bound(Move(r, 10), 5), 5, api.MayLoad, api.OK}, {Bound(Move(r, 10), 5), 6, api.MayLoad, api.ErrBound},
		{Seal(r, Move(r, 3)), 1, api.MayLoad, api.ErrSeal},
	} {
		if g := Check(x.c, x.n, x.perms); g != x.want {
			t.Errorf("%d: %d, not %d", i, g, x.want)
		}
	}
}

func TestB6Within(t *testing.T) {
	b := perms(at(10, 20, 0), api.MayLoad|api.MayRun)
	for i, x := range []struct {
		a, b api.Cap
		want bool
	}{
		{b, b, true}, {Move(b, 99), b, true}, {perms(at(12, 13, 12), 1), b, true}, {perms(b, 0), b, true},
		{at(9, 20, 0), at(10, 20, 0), false}, {at(10, 21, 0), at(10, 20, 0), false}, {perms(b, 3), b, false},
		{perms(at(99, 99, 0), 1), b, true}, {perms(at(5, 5, 0), 1), b, true}, {perms(at(99, 99, 0), 2), b, false}, {typed(perms(at(99, 99, 0), 1), 4), b, false},
		{without(Root(top)), b, true}, {without(b), without(b), true}, {b, without(b), false}, {Int(4), Null(), true},
		{typed(b, 3), b, false}, {b, typed(b, 3), false}, {typed(b, 3), typed(b, 3), true}, {typed(b, 3), typed(b, 4), false},
	} {
		if g := Within(x.a, x.b); g != x.want {
			t.Errorf("%d: %t", i, g)
		}
	}
}

func TestB7Text(t *testing.T) {
	for want, c := range map[string]api.Cap{
		"+0..100@0:255": r, "-0..0@0:0": Null(), "-0..0@18446744073709551615:0": Int(top), "+10..15@10:255": Bound(Move(r, 10), 5),
		"+0..100@0:7!0": perms(typed(r, 0), 7), "-0..100@9:255!63": without(typed(Move(r, 9), 63)),
	} {
		if g := Text(c); g != want {
			t.Errorf("%s, not %s", g, want)
		}
	}
}

// anything is a capability by chance, near enough to others that they touch.
func anything(l *rand.Rand) api.Cap {
	from := uint64(l.Intn(80))
	c := api.Cap{Base: from, Top: from + uint64(l.Intn(80)), At: uint64(l.Intn(120)), Perms: l.Intn(256), Type: -1, Tag: l.Intn(8) > 0}
	if l.Intn(3) == 0 {
		c.Type = l.Intn(64)
	}
	return c
}

func TestB8NothingReachesMore(t *testing.T) {
	l := rand.New(rand.NewSource(2))
	for range 20000 {
		c, by, n := anything(l), anything(l), uint64(l.Intn(120))
		for i, made := range []api.Cap{Move(c, n), Bound(c, n), And(c, int(n)), Clear(c)} {
			if !Within(made, c) {
				t.Fatalf("%d: %+v of %+v", i, made, c)
			}
			if c.Type >= 0 && made.Tag {
				t.Fatalf("%d: sealed, and changed: %+v", i, made)
			}
		}
		if s := Seal(c, by); s.Tag {
			if Check(s, 0, 0) != api.ErrSeal || Unseal(s, Move(Root(64), by.At)) != c {
				t.Fatalf("%+v by %+v: %+v", c, by, s)
			}
		}
		if u := Unseal(c, by); u.Tag && (u.Type != -1 || typed(u, c.Type) != c) {
			t.Fatalf("%+v by %+v: %+v", c, by, u)
		}
	}
}
