package layout

import (
	"math"
	"math/rand"
	"slices"
	"testing"

	"curtilage/api"
)

const top = math.MaxUint64

// object has segments, each of which is where it is and how long.
func object(segments ...[2]uint64) api.Object {
	var o api.Object
	for _, s := range segments {
		o.Segments = append(o.Segments, api.Segment{At: s[0], Size: s[1], Flags: 1})
	}
	return o
}

func place(base, size uint64) Place { return Place{Base: base, Size: size} }

func TestP1Size(t *testing.T) {
	for i, x := range []struct {
		o    api.Object
		want uint64
	}{
		{object(), 0}, {object([2]uint64{0, 9}, [2]uint64{256, 344}), 768}, {object([2]uint64{0, 1}), 256}, {object([2]uint64{0, 256}), 256}, {object([2]uint64{0, 257}), 512},
		{object([2]uint64{512, 1}), 768}, {object([2]uint64{0, 1}, [2]uint64{16128, 256}), 16384},
	} {
		if g := Size(x.o); g != x.want {
			t.Errorf("%d: %d", i, g)
		}
	}
}

func TestP2Lay(t *testing.T) {
	l := []api.Object{object([2]uint64{0, 9}, [2]uint64{256, 344}), object(), object([2]uint64{0, 256})}
	for i, x := range []struct {
		order     []int
		from, end uint64
		want      []Place
	}{
		{[]int{0, 0}, 100, 5000, []Place{place(256, 768), place(1024, 768)}}, {[]int{0, 0}, 100, 1792, []Place{place(256, 768), place(1024, 768)}}, {[]int{0, 2, 1, 0}, 4096, 49152, []Place{place(4096, 768), place(4864, 256), place(5120, 0), place(5120, 768)}},
		{[]int{2}, 256, 512, []Place{place(256, 256)}}, {[]int{2}, 257, 768, []Place{place(512, 256)}}, {[]int{1}, 512, 512, []Place{place(512, 0)}}, {[]int{2}, 0, 256, []Place{place(0, 256)}},
		{[]int{1}, top - 255, top, []Place{place(top-255, 0)}}, {[]int{2}, top - 511, top, []Place{place(top-511, 256)}}, {[]int{1, 1}, 0, 0, []Place{place(0, 0), place(0, 0)}}, {[]int{-1, 2, 3}, 0, 256, []Place{place(0, 256)}},
	} {
		g, e := Lay(l, x.order, x.from, x.end)
		if !slices.Equal(g, x.want) || e != api.OK {
			t.Errorf("%d: %v, %d", i, g, e)
		}
	}
	if g, e := Lay(l, nil, 5, 0); len(g) != 0 || e != api.OK {
		t.Error(g, e)
	}
}

func TestP2NoRoom(t *testing.T) {
	l := []api.Object{object([2]uint64{0, 9}, [2]uint64{256, 344}), object(), object([2]uint64{0, 256})}
	for i, x := range []struct {
		order     []int
		from, end uint64
	}{
		{[]int{0, 0}, 100, 1791}, {[]int{0}, 100, 1023}, {[]int{2}, 1, 511}, {[]int{1}, 1, 255}, {[]int{1}, 512, 511}, {[]int{0}, 512, 0}, {[]int{1}, top, top}, {[]int{1}, top - 254, top}, {[]int{2}, top - 255, top},
		{[]int{2, 2}, top - 511, top}, {[]int{1, 2}, top - 255, top}, {[]int{2, 0}, 0, 1000},
	} {
		if g, e := Lay(l, x.order, x.from, x.end); g != nil || e != api.ErrAddress {
			t.Errorf("%d: %v, %d", i, g, e)
		}
	}
}

func TestP3Owner(t *testing.T) {
	l := []Place{place(256, 256), place(1024, 0), place(512, 512), place(300, 1000), place(top-9, 9)}
	for at, want := range map[uint64]int{0: -1, 255: -1, 256: 0, 511: 0, 512: 2, 1023: 2, 1024: 3, 1299: 3, 1300: -1, top - 9: 4, top - 1: 4, top: -1} {
		if g := Owner(l, at); g != want {
			t.Errorf("%d: %d, not %d", at, g, want)
		}
	}
	if Owner(nil, 0) != -1 {
		t.Error("nobody's")
	}
}

func TestP3Apart(t *testing.T) {
	for i, x := range []struct {
		l    []Place
		want bool
	}{
		{nil, true}, {[]Place{place(0, 9)}, true}, {[]Place{place(0, 9), place(9, 9)}, true}, {[]Place{place(9, 9), place(0, 9)}, true}, {[]Place{place(0, 10), place(9, 9)}, false}, {[]Place{place(9, 9), place(0, 10)}, false},
		{[]Place{place(0, 9), place(0, 9)}, false}, {[]Place{place(0, 9), place(5, 0)}, true}, {[]Place{place(5, 0), place(5, 0)}, true}, {[]Place{place(0, 100), place(5, 1), place(200, 1)}, false},
		{[]Place{place(0, 1), place(200, 1), place(100, 101)}, false}, {[]Place{place(0, top), place(top-1, 1)}, false}, {[]Place{place(0, top-1), place(top-1, 1)}, true},
	} {
		before := slices.Clone(x.l)
		if g := Apart(x.l); g != x.want || !slices.Equal(before, x.l) {
			t.Errorf("%d: %t", i, g)
		}
	}
}

func TestP4WhatIsLaidLiesApart(t *testing.T) {
	r := rand.New(rand.NewSource(19))
	for range 2000 {
		var l []api.Object
		var order []int
		for i := range r.Intn(9) {
			o := object()
			if r.Intn(4) > 0 {
				o = object([2]uint64{uint64(r.Intn(4)) * 256, uint64(1 + r.Intn(700))})
			}
			l, order = append(l, o), append(order, i)
		}
		r.Shuffle(len(order), func(i, j int) { order[i], order[j] = order[j], order[i] })
		places, e := Lay(l, order, uint64(r.Intn(9999)), 49152)
		if e != api.OK || !Apart(places) || len(places) != len(order) {
			t.Fatal(places, e)
		}
		for i, p := range places {
			if p.Base%256 != 0 || p.Size != Size(l[order[i]]) || p.Size > 0 && (Owner(places, p.Base) != i || Owner(places, p.Base+p.Size-1) != i) {
				t.Fatal(places)
			}
		}
	}
}
