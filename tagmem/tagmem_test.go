package tagmem

import (
	"bytes"
	"math"
	"math/rand"
	"slices"
	"testing"

	"curtilage/api"
	"curtilage/cap"
)

const top = math.MaxUint64

// made is a memory with a budget, and some pages that are mapped one by one.
func made(t *testing.T, budget int, pages ...uint64) *Mem {
	t.Helper()
	m, e := New(budget)
	if e != api.OK {
		t.Fatal(e)
	}
	for _, p := range pages {
		want(t, "map", m.Map(p, 1), api.OK)
	}
	return m
}

func want(t *testing.T, what string, got, e api.Errno) {
	t.Helper()
	if got != e {
		t.Errorf("%s: %d, not %d", what, got, e)
	}
}

func TestC1New(t *testing.T) {
	for budget, e := range map[int]api.Errno{0: api.OK, 256: api.OK, -1: api.ErrArg, 257: api.ErrArg, math.MinInt: api.ErrArg, math.MaxInt: api.ErrArg} {
		m, got := New(budget)
		want(t, "New", got, e)
		if (m == nil) != (e != api.OK) {
			t.Error(budget, m)
		}
		if m != nil && (len(m.Pages()) != 0 || len(m.Tags()) != 0) {
			t.Error(budget, "maps something")
		}
	}
}

func TestC1Map(t *testing.T) {
	m := made(t, 4)
	for i, x := range []struct {
		from uint64
		n    int
		e    api.Errno
	}{
		{0, 0, api.ErrArg}, {0, -1, api.ErrArg}, {0, 65537, api.ErrArg}, {65536, 1, api.ErrArg}, {65535, 2, api.ErrArg}, {top, 1, api.ErrArg}, {top, 2, api.ErrArg},
		{1 << 63, math.MaxInt, api.ErrArg}, {0, 65536, api.ErrBudget}, {0, 5, api.ErrBudget}, {65535, 1, api.OK}, {3, 2, api.OK},
		{4, 1, api.ErrMapped}, {2, 2, api.ErrMapped}, {4, 4, api.ErrMapped}, {5, 2, api.ErrBudget}, {5, 1, api.OK}, {6, 1, api.ErrBudget}, {5, 1, api.ErrMapped},
	} {
		if e := m.Map(x.from, x.n); e != x.e {
			t.Errorf("%d: %d, not %d", i, e, x.e)
		}
	}
	if l := m.Pages(); !slices.Equal(l, []uint64{3, 4, 5, 65535}) {
		t.Error(l)
	}
	want(t, "none at all", made(t, 0).Map(0, 1), api.ErrBudget)
}

func TestC1Unmap(t *testing.T) {
	m := made(t, 4, 3, 4, 5, 65535)
	for i, x := range []struct {
		from uint64
		n    int
		e    api.Errno
	}{
		{3, 0, api.ErrArg}, {3, -1, api.ErrArg}, {0, 65537, api.ErrArg}, {65535, 2, api.ErrArg}, {65536, 1, api.ErrArg}, {top, 2, api.ErrArg},
		{2, 1, api.ErrPage}, {2, 2, api.ErrPage}, {3, 4, api.ErrPage}, {4, 2, api.OK}, {4, 1, api.ErrPage},
	} {
		if e := m.Unmap(x.from, x.n); e != x.e {
			t.Errorf("%d: %d, not %d", i, e, x.e)
		}
	}
	if l := m.Pages(); !slices.Equal(l, []uint64{3, 65535}) {
		t.Error(l)
	}
}

func TestC1MappedAgainIsEmpty(t *testing.T) {
	m := made(t, 1, 7)
	want(t, "store", m.StoreCap(7*256+32, cap.Root(9)), api.OK)
	want(t, "unmap", m.Unmap(7, 1), api.OK)
	want(t, "map", m.Map(7, 1), api.OK)
	if len(m.Tags()) != 0 || !bytes.Equal(m.Bytes(7*256, 256), make([]byte, 256)) {
		t.Error("something stayed")
	}
}

func TestC2LoadAndStore(t *testing.T) {
	m := made(t, 2, 1)
	for i, x := range []struct {
		at uint64
		n  int
		e  api.Errno
	}{
		{256, 1, api.OK}, {511, 1, api.OK}, {510, 2, api.OK}, {508, 4, api.OK}, {504, 8, api.OK},
		{256, 0, api.ErrArg}, {256, 3, api.ErrArg}, {256, 16, api.ErrArg}, {256, -8, api.ErrArg}, {257, 3, api.ErrArg}, {0, 5, api.ErrArg},
		{257, 2, api.ErrAlign}, {1, 2, api.ErrAlign}, {258, 4, api.ErrAlign}, {260, 8, api.ErrAlign}, {top, 8, api.ErrAlign},
		{0, 1, api.ErrPage}, {255, 1, api.ErrPage}, {512, 8, api.ErrPage}, {top, 1, api.ErrPage}, {1 << 40, 8, api.ErrPage}, {256 * 65537, 8, api.ErrPage},
	} {
		w, e := m.Load(x.at, x.n)
		if e != x.e || w != 0 {
			t.Errorf("%d: load: %d, %d", i, w, e)
		}
		if e := m.Store(x.at, x.n, 0); e != x.e {
			t.Errorf("%d: store: %d", i, e)
		}
	}
}

func TestC2LowestBytes(t *testing.T) {
	m := made(t, 1, 1)
	want(t, "8", m.Store(256, 8, 0x1122334455667788), api.OK)
	want(t, "2", m.Store(258, 2, 0xabcdef), api.OK)
	if b := m.Bytes(256, 8); !bytes.Equal(b, []byte{0x88, 0x77, 0xef, 0xcd, 0x44, 0x33, 0x22, 0x11}) {
		t.Error(b)
	}
	if w, e := m.Load(256, 4); w != 0xcdef7788 || e != api.OK {
		t.Error(w, e)
	}
	want(t, "4", m.Store(256, 4, 258), api.OK)
	if w, _ := m.Load(256, 2); w != 258 {
		t.Error(w)
	}
}

func TestC2WrittenGranuleHasNoTag(t *testing.T) {
	for _, n := range []int{1, 2, 4, 8} {
		m := made(t, 1, 1)
		for at := uint64(256); at < 512; at += 32 {
			want(t, "capability", m.StoreCap(at, cap.Root(9)), api.OK)
		}
		want(t, "number", m.Store(320-uint64(n), n, 0), api.OK)
		if l := m.Tags(); !slices.Equal(l, []uint64{256, 320, 352, 384, 416, 448, 480}) {
			t.Error(n, l)
		}
		if c, e := m.LoadCap(288); e != api.OK || c.Tag {
			t.Error(n, c, e)
		}
	}
}

func TestC3Capabilities(t *testing.T) {
	m := made(t, 1, 1)
	sealed := cap.Seal(cap.Root(300), cap.Move(cap.Root(64), 63))
	for i, c := range []api.Cap{cap.Root(9), cap.Null(), cap.Int(top), sealed, cap.Clear(sealed), {Base: 1, Top: top, At: 3, Perms: 200, Type: 0, Tag: true}} {
		want(t, "store", m.StoreCap(480, c), api.OK)
		if g, e := m.LoadCap(480); g != c || e != api.OK {
			t.Errorf("%d: %+v, %d", i, g, e)
		}
		if l := m.Tags(); c.Tag != slices.Equal(l, []uint64{480}) {
			t.Error(i, l)
		}
	}
	for at, e := range map[uint64]api.Errno{481: api.ErrAlign, 496: api.ErrAlign, 1: api.ErrAlign, 512: api.ErrPage, 0: api.ErrPage, top: api.ErrAlign, top - 31: api.ErrPage} {
		want(t, "store", m.StoreCap(at, sealed), e)
		c, got := m.LoadCap(at)
		want(t, "load", got, e)
		if c != (api.Cap{}) {
			t.Error(at, c)
		}
	}
}

func TestC3HowItStands(t *testing.T) {
	m := made(t, 1, 0)
	want(t, "put", m.Put(0, bytes.Repeat([]byte{99}, 64)), api.OK)
	want(t, "store", m.StoreCap(32, api.Cap{Base: 258, Top: 3, At: 1 << 56, Perms: 131, Type: -1, Tag: true}), api.OK)
	if b := m.Bytes(32, 32); !bytes.Equal(b, []byte{2, 1, 0, 0, 0, 0, 0, 0, 3, 0, 0, 0, 0, 0, 0, 0, 0, 0, 0, 0, 0, 0, 0, 1, 131, 255, 0, 0, 0, 0, 0, 0}) {
		t.Error(b)
	}
	for b, typ := range map[uint64]int{0: 0, 63: 63, 64: -1, 200: -1, 255: -1} {
		want(t, "type", m.Store(32+25, 1, b), api.OK)
		if c, _ := m.LoadCap(32); c.Type != typ || c.Base != 258 || c.Perms != 131 || c.Tag {
			t.Error(b, c)
		}
	}
}

func TestC4Put(t *testing.T) {
	m := made(t, 3, 1, 2, 65535)
	fill := func() {
		for _, at := range []uint64{480, 512, 544} {
			want(t, "capability", m.StoreCap(at, cap.Root(at)), api.OK)
		}
	}
	fill()
	for i, x := range []struct {
		at   uint64
		n    int
		e    api.Errno
		tags []uint64
	}{
		{480, 0, api.OK, []uint64{480, 512, 544}}, {9, 0, api.OK, []uint64{480, 512, 544}}, {top, 0, api.OK, []uint64{480, 512, 544}},
		{511, 1, api.OK, []uint64{512, 544}}, {511, 2, api.OK, []uint64{544}}, {511, 34, api.OK, nil}, {500, 12, api.OK, []uint64{512, 544}},
		{512, 1, api.OK, []uint64{480, 544}}, {479, 1, api.OK, []uint64{480, 512, 544}}, {256, 512, api.OK, nil},
		{255, 2, api.ErrPage, []uint64{480, 512, 544}}, {511, 258, api.ErrPage, []uint64{480, 512, 544}}, {top, 1, api.ErrPage, []uint64{480, 512, 544}},
		{top, 2, api.ErrPage, []uint64{480, 512, 544}}, {65535*256 + 255, 1, api.OK, []uint64{480, 512, 544}}, {65535*256 + 255, 2, api.ErrPage, []uint64{480, 512, 544}},
	} {
		fill()
		if e := m.Put(x.at, make([]byte, x.n)); e != x.e || !slices.Equal(m.Tags(), x.tags) {
			t.Errorf("%d: %d, %v", i, e, m.Tags())
		}
	}
}

func TestC4Bytes(t *testing.T) {
	m := made(t, 2, 1, 2)
	b := []byte("over the end of a page")
	want(t, "put", m.Put(505, b), api.OK)
	if g := m.Bytes(505, len(b)); !bytes.Equal(g, b) {
		t.Error(g)
	}
	b[0] = 'x'
	if g := m.Bytes(505, 1); g[0] != 'o' {
		t.Error("what was handed in is kept")
	}
	m.Bytes(505, 1)[0] = 'x'
	if g := m.Bytes(505, 1); g[0] != 'o' {
		t.Error("what was handed out is kept")
	}
	for i, x := range []struct {
		at   uint64
		n    int
		many int
	}{{256, 512, 512}, {256, 513, 0}, {255, 2, 0}, {256, 0, 0}, {256, -1, 0}, {256, 65537, 0}, {256, math.MaxInt, 0}, {top, 1, 0}, {top, 2, 0}, {767, 1, 1}} {
		if g := m.Bytes(x.at, x.n); len(g) != x.many {
			t.Error(i, len(g))
		}
	}
	big := made(t, 256)
	want(t, "map", big.Map(0, 256), api.OK)
	if len(big.Bytes(0, 65536)) != 65536 || len(big.Bytes(0, 65537)) != 0 {
		t.Error("the greatest piece")
	}
}

func TestC4TagsRise(t *testing.T) {
	m := made(t, 3, 9, 0, 65535)
	for _, at := range []uint64{9 * 256, 65535*256 + 224, 224, 0, 9*256 + 224} {
		want(t, "store", m.StoreCap(at, cap.Root(1)), api.OK)
	}
	if l := m.Tags(); !slices.Equal(l, []uint64{0, 224, 2304, 2528, 65535*256 + 224}) {
		t.Error(l)
	}
	want(t, "store", m.StoreCap(224, cap.Int(1)), api.OK)
	if l := m.Tags(); !slices.Equal(l, []uint64{0, 2304, 2528, 65535*256 + 224}) {
		t.Error(l)
	}
}

func TestC5ErrorsChangeNothing(t *testing.T) {
	m := made(t, 3, 1, 2)
	want(t, "put", m.Put(256, bytes.Repeat([]byte{7}, 512)), api.OK)
	want(t, "capability", m.StoreCap(256, cap.Root(5)), api.OK)
	ahead, tags, pages := m.Bytes(256, 512), m.Tags(), m.Pages()
	for i, e := range []api.Errno{
		m.Map(2, 2), m.Map(3, 2), m.Map(0, 0), m.Unmap(2, 2), m.Unmap(0, 0), m.Store(257, 2, 0), m.Store(256, 3, 0), m.Store(255, 1, 0),
		m.StoreCap(257, cap.Null()), m.StoreCap(768, cap.Null()), m.Put(600, make([]byte, 200)), m.Put(255, make([]byte, 2)),
	} {
		if e == api.OK {
			t.Error(i, "told no error")
		}
	}
	if !bytes.Equal(m.Bytes(256, 512), ahead) || !slices.Equal(m.Tags(), tags) || !slices.Equal(m.Pages(), pages) {
		t.Error("something changed")
	}
}

func TestC5WhatWasStoredIsLoaded(t *testing.T) {
	m := made(t, 2, 4, 5)
	r := rand.New(rand.NewSource(3))
	model := make([]byte, 512)
	tags := map[uint64]bool{}
	for range 5000 {
		n := 1 << r.Intn(4)
		at := uint64(r.Intn(512/n) * n)
		switch r.Intn(3) {
		case 0:
			w := r.Uint64()
			want(t, "store", m.Store(1024+at, n, w), api.OK)
			for i := range n {
				model[at+uint64(i)] = byte(w >> (8 * i))
			}
			delete(tags, at/32)
		case 1:
			at = at / 32 * 32
			c := api.Cap{Base: r.Uint64(), Top: r.Uint64(), At: r.Uint64(), Perms: r.Intn(256), Type: r.Intn(65) - 1, Tag: true}
			want(t, "store", m.StoreCap(1024+at, c), api.OK)
			if g, e := m.LoadCap(1024 + at); g != c || e != api.OK {
				t.Fatal(g, c, e)
			}
			copy(model[at:], m.Bytes(1024+at, 32))
			tags[at/32] = true
		case 2:
			w := uint64(0)
			for i := n - 1; i >= 0; i-- {
				w = w<<8 | uint64(model[at+uint64(i)])
			}
			if g, e := m.Load(1024+at, n); g != w || e != api.OK {
				t.Fatal(g, w, e)
			}
		}
		if len(m.Tags()) != len(tags) || !bytes.Equal(m.Bytes(1024, 512), model) {
			t.Fatal("the model is another one")
		}
	}
}

func TestNoMemory(t *testing.T) {
	for _, m := range []*Mem{nil, {}} {
		want(t, "map", m.Map(0, 1), api.ErrBudget)
		want(t, "unmap", m.Unmap(0, 1), api.ErrPage)
		want(t, "store", m.Store(0, 1, 1), api.ErrPage)
		want(t, "store", m.StoreCap(0, cap.Null()), api.ErrPage)
		want(t, "put", m.Put(0, []byte{1}), api.ErrPage)
		if len(m.Pages())+len(m.Tags())+len(m.Bytes(0, 1)) != 0 {
			t.Error("something")
		}
		_, e := m.Load(0, 1)
		want(t, "load", e, api.ErrPage)
		_, e = m.LoadCap(0)
		want(t, "load", e, api.ErrPage)
	}
}
