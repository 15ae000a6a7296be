package hash

import (
	"math/rand"
	"slices"
	"strconv"
	"testing"

	"curtilage/api"
)

// shown is a symbol that others see.
func shown(name, version string) api.Symbol {
	return api.Symbol{Name: name, Version: version, Kind: api.SymFunc, Bind: api.BindOuter, Seen: api.SeenAll, Defined: true}
}

// local is one that they don't.
func local(name, version string) api.Symbol {
	s := shown(name, version)
	s.Bind = api.BindLocal
	return s
}

func made(t *testing.T, l []api.Symbol, n int) Table {
	t.Helper()
	table, e := Make(l, n)
	if e != api.OK {
		t.Fatal(e)
	}
	return table
}

func TestL1Of(t *testing.T) {
	for name, want := range map[string]uint32{
		"": 0, "a": 97, "ab": 97*16 + 98, "printf": 0x077905a6, "exit": 0x0006cf04, "syscall": 0x0b09985c, "\xff": 255, "\x00": 0,
	} {
		if g := Of(name); g != want {
			t.Errorf("%q: %#x, not %#x", name, g, want)
		}
	}
	r := rand.New(rand.NewSource(14))
	for range 5000 {
		b := make([]byte, r.Intn(40))
		r.Read(b)
		if Of(string(b)) != slow(string(b)) {
			t.Fatalf("%q", b)
		}
	}
}

// slow is the hash with more bits than it needs.
func slow(name string) uint32 {
	h := uint64(0)
	for _, b := range []byte(name) {
		h = (h*16 + uint64(b)) % (1 << 32)
		if high := h >> 28; high != 0 {
			h ^= high << 28 >> 24
			h %= 1 << 28
		}
	}
	return uint32(h)
}

func TestL1Shown(t *testing.T) {
	for i, x := range []struct {
		change func(s *api.Symbol)
		want   bool
	}{
		{func(s *api.Symbol) {}, true}, {func(s *api.Symbol) { s.Bind = api.BindWeak }, true}, {func(s *api.Symbol) { s.Kind = api.SymData }, true},
		{func(s *api.Symbol) { s.Defined = false }, false}, {func(s *api.Symbol) { s.Bind = api.BindLocal }, false}, {func(s *api.Symbol) { s.Seen = api.SeenOwn }, false},
	} {
		s := shown("f", "")
		x.change(&s)
		if Shown(s) != x.want {
			t.Error(i)
		}
	}
}

func TestL2Make(t *testing.T) {
	l := []api.Symbol{shown("a", ""), local("a", ""), shown("e", ""), shown("b", ""), shown("a", "v"), shown("i", ""), local("b", "")}
	for n, want := range map[int]Table{
		1: {[]int{1}, []int{3, 0, 4, 5, 6, 0, 0}}, 4: {[]int{0, 1, 4, 0}, []int{3, 0, 5, 0, 6, 0, 0}}, 5: {[]int{6, 3, 1, 4, 0}, []int{5, 0, 0, 0, 0, 0, 0}},
	} {
		if g := made(t, l, n); !slices.Equal(g.Buckets, want.Buckets) || !slices.Equal(g.Chain, want.Chain) {
			t.Errorf("%d: %v, not %v", n, g, want)
		}
	}
	if g := made(t, nil, 2); !slices.Equal(g.Buckets, []int{0, 0}) || len(g.Chain) != 0 {
		t.Error(g)
	}
	for i, x := range []struct {
		many, n int
		e       api.Errno
	}{{0, 0, api.ErrArg}, {0, -1, api.ErrArg}, {0, 65, api.ErrArg}, {0, 64, api.OK}, {0, 1, api.OK}, {40, 7, api.OK}, {41, 7, api.ErrArg}, {41, 0, api.ErrArg}} {
		g, e := Make(make([]api.Symbol, x.many), x.n)
		if e != x.e || e != api.OK && (g.Buckets != nil || g.Chain != nil) || e == api.OK && (len(g.Buckets) != x.n || len(g.Chain) != x.many) {
			t.Error(i, g, e)
		}
	}
}

func TestL3Find(t *testing.T) {
	l := []api.Symbol{local("f", ""), shown("f", "v1"), shown("f", "v2"), shown("g", ""), {Name: "h"}, shown("f", "v1")}
	for n := 1; n <= 64; n++ {
		table := made(t, l, n)
		for i, x := range []struct {
			name, version string
			want          int
		}{{"f", "v2", 2}, {"f", "", 1}, {"f", "v1", 1}, {"f", "v3", -1}, {"g", "", 3}, {"g", "v1", -1}, {"h", "", -1}, {"", "", -1}, {"x", "", -1}} {
			if g := Find(table, l, x.name, x.version); g != x.want {
				t.Errorf("%d, %d: %d, not %d", n, i, g, x.want)
			}
		}
	}
	if Find(Table{}, l, "f", "") != -1 || Find(Table{Chain: []int{1, 2, 3, 4, 5, 6}}, l, "f", "") != -1 {
		t.Error("no buckets")
	}
}

func TestR1FindInAnyTable(t *testing.T) {
	l := []api.Symbol{shown("f", ""), shown("g", "")}
	for i, table := range []Table{
		{[]int{1}, []int{2, 1}}, {[]int{1}, []int{1}}, {[]int{-1}, nil}, {[]int{3}, []int{0, 0}}, {[]int{2}, []int{0}}, {[]int{1}, []int{99, 0}}, {[]int{1}, []int{-5, 0}},
	} {
		if g := Find(table, l, "x", ""); g != -1 {
			t.Error(i, g)
		}
	}
	if Find(Table{[]int{1}, []int{0}}, nil, "f", "") != -1 {
		t.Error("no symbols")
	}
}

func TestL4Valid(t *testing.T) {
	l := []api.Symbol{shown("a", ""), shown("e", ""), shown("b", "")}
	table := made(t, l, 4)
	if !Valid(table, l) || !Valid(made(t, l, 64), l) || !Valid(Table{Buckets: []int{0}}, nil) || !Valid(Table{[]int{0, 0}, []int{}}, nil) {
		t.Error("it is")
	}
	other := []api.Symbol{shown("a", ""), local("e", ""), shown("b", "")}
	if Valid(table, other) || Valid(table, l[:2]) || Valid(table, append(slices.Clone(l), local("x", ""))) || Valid(Table{}, nil) || Valid(Table{}, l) || Valid(Table{make([]int, 65), make([]int, 3)}, other) {
		t.Error("it is not")
	}
	for i := range 7 {
		c := Table{slices.Clone(table.Buckets), slices.Clone(table.Chain)}
		if i < 4 {
			c.Buckets[i]++
		} else {
			c.Chain[i-4]++
		}
		if Valid(c, l) {
			t.Error(i)
		}
	}
	if Valid(Table{[]int{0, 2, 3, 0}, []int{0, 1, 0}}, l) {
		t.Error("another order")
	}
	if Valid(Table{table.Buckets, append(slices.Clone(table.Chain), 0)}, l) {
		t.Error("too long")
	}
	if Valid(Table{[]int{0}, make([]int, 41)}, make([]api.Symbol, 41)) {
		t.Error("too many")
	}
}

func TestL5WhatIsFoundIsTheFirst(t *testing.T) {
	r := rand.New(rand.NewSource(15))
	for range 2000 {
		var l []api.Symbol
		for range r.Intn(41) {
			s := shown("s"+strconv.Itoa(r.Intn(12)), []string{"", "v1", "v2"}[r.Intn(3)])
			s.Bind, s.Seen, s.Defined = 1+r.Intn(3), 1+r.Intn(2), r.Intn(5) > 0
			l = append(l, s)
		}
		table := made(t, l, 1+r.Intn(64))
		if !Valid(table, l) {
			t.Fatal(table)
		}
		for i := range 13 {
			for _, version := range []string{"", "v1", "v2", "v3"} {
				name := "s" + strconv.Itoa(i)
				want := slices.IndexFunc(l, func(s api.Symbol) bool {
					return s.Name == name && Shown(s) && (version == "" || s.Version == version)
				})
				if g := Find(table, l, name, version); g != want {
					t.Fatal(name, version, g, want)
				}
			}
		}
	}
}
