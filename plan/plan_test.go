package plan

import (
	"math/rand"
	"slices"
	"testing"

	"curtilage/api"
	"curtilage/lookup"
)

// defines is a symbol that others see; uses is one that is not defined.
func defines(name string) api.Symbol {
	return api.Symbol{Name: name, Kind: api.SymFunc, Bind: api.BindOuter, Seen: api.SeenAll, Defined: true}
}

func uses(name, version string, bind int) api.Symbol {
	return api.Symbol{Name: name, Version: version, Kind: api.SymFunc, Bind: bind, Seen: api.SeenAll}
}

func link(obj, reloc, to, sym int) api.Link {
	return api.Link{Obj: obj, Reloc: reloc, To: to, Sym: sym}
}

// object has one relocation for each of syms.
func object(symbols []api.Symbol, syms ...int) api.Object {
	o := api.Object{Symbols: symbols}
	for i, n := range syms {
		o.Relocs = append(o.Relocs, api.Reloc{At: uint64(i) * 64, Sym: n})
	}
	return o
}

func sample() []api.Object {
	return []api.Object{
		object([]api.Symbol{uses("f", "", api.BindOuter), uses("w", "", api.BindWeak), defines("own")}, 0, 1, 2, 0),
		object([]api.Symbol{defines("g"), defines("f"), uses("own", "", api.BindOuter)}, 2, 0),
		object(nil),
		object([]api.Symbol{uses("f", "v2", api.BindOuter), uses("f", "", api.BindOuter), uses("nowhere", "", api.BindOuter)}, 1, 0, 2),
	}
}

func TestO1Link(t *testing.T) {
	l := sample()
	a := []api.Link{{Obj: 0, Reloc: 0, To: 1, Sym: 1}, {Obj: 0, Reloc: 1, To: -1, Sym: -1}, {Obj: 0, Reloc: 2, To: 0, Sym: 2}, {Obj: 0, Reloc: 3, To: 1, Sym: 1}}
	b := []api.Link{{Obj: 1, Reloc: 0, To: 0, Sym: 2}, {Obj: 1, Reloc: 1, To: 1, Sym: 0}}
	for i, x := range []struct {
		scope, objs []int
		links       []api.Link
		bad         api.Link
		e           api.Errno
	}{
		{[]int{0, 1}, []int{0, 1}, append(slices.Clone(a), b...), api.Link{}, api.OK}, {[]int{0, 1}, []int{1, 2, 0}, append(slices.Clone(b), a...), api.Link{}, api.OK}, {[]int{0, 1}, nil, nil, api.Link{}, api.OK},
		{[]int{1, 0}, []int{0, 0}, append(slices.Clone(a), a...), api.Link{}, api.OK}, {nil, []int{2}, nil, api.Link{}, api.OK},
		{[]int{0}, []int{0, 1}, nil, api.Link{}, api.ErrUndefined}, {[]int{1}, []int{1}, nil, api.Link{Obj: 1}, api.ErrUndefined}, {[]int{0, 1}, []int{1, 3}, nil, api.Link{Obj: 3, Reloc: 1}, api.ErrVersion},
		{[]int{0}, []int{1, 3, 0}, nil, api.Link{Obj: 3}, api.ErrUndefined}, {[]int{0, 1}, []int{-1, 9, 2}, nil, api.Link{}, api.OK},
	} {
		links, bad, e := Link(l, x.scope, x.objs)
		if !slices.Equal(links, x.links) || bad != x.bad || e != x.e {
			t.Errorf("%d: %v, %v, %d", i, links, bad, e)
		}
	}
}

func TestO2Of(t *testing.T) {
	links := []api.Link{link(2, 0, 1, 0), link(0, 0, 1, 1), link(2, 1, 0, 5), link(1, 0, -1, -1), link(2, 1, 0, 5)}
	for obj, want := range map[int][]api.Link{0: {links[1]}, 1: {links[3]}, 2: {links[0], links[2], links[4]}, 3: nil, -1: nil} {
		if g := Of(links, obj); !slices.Equal(g, want) {
			t.Errorf("%d: %v", obj, g)
		}
	}
	Of(links, 0)[0].Obj = 9
	if links[1].Obj != 0 || Of(nil, 0) != nil {
		t.Error("what was handed in is shared")
	}
}

func TestO2Users(t *testing.T) {
	links := []api.Link{link(5, 0, 1, 0), link(3, 0, 1, 1), link(1, 0, 1, 5), link(5, 1, 1, 9), link(3, 1, 0, 0), link(4, 0, -1, -1), link(0, 0, 1, 3)}
	for obj, want := range map[int][]int{1: {0, 3, 5}, 0: {3}, 2: nil, 5: nil} {
		if g := Users(links, obj); !slices.Equal(g, want) {
			t.Errorf("%d: %v", obj, g)
		}
	}
}

func TestO3OneBehindTheOther(t *testing.T) {
	r := rand.New(rand.NewSource(18))
	for range 500 {
		var l []api.Object
		for range 5 {
			var symbols []api.Symbol
			for range 1 + r.Intn(4) {
				name := string(rune('a' + r.Intn(6)))
				if r.Intn(2) == 0 {
					symbols = append(symbols, defines(name))
				} else {
					symbols = append(symbols, uses(name, "", 2+r.Intn(2)))
				}
			}
			var syms []int
			for range r.Intn(4) {
				syms = append(syms, r.Intn(len(symbols)))
			}
			l = append(l, object(symbols, syms...))
		}
		scope, objs := []int{4, 0, 2, 1}, []int{0, 3, 1}
		all, bad, e := Link(l, scope, objs)
		var each []api.Link
		for _, o := range objs {
			links, one, wrong := Link(l, scope, []int{o})
			if wrong != api.OK {
				if all != nil || bad != one || e != wrong {
					t.Fatal(all, bad, e)
				}
				each = nil
				break
			}
			each = append(each, links...)
		}
		if !slices.Equal(all, each) && e == api.OK {
			t.Fatal(all, each)
		}
		for _, x := range all {
			if to, sym, _ := lookup.Bind(l, scope, x.Obj, l[x.Obj].Relocs[x.Reloc].Sym); to != x.To || sym != x.Sym {
				t.Fatal(x)
			}
		}
		if e != api.OK {
			continue
		}
		many := 0
		for _, o := range objs {
			many += len(l[o].Relocs)
			for i, x := range Of(all, o) {
				if x.Reloc != i {
					t.Fatal(all)
				}
			}
		}
		if many != len(all) {
			t.Fatal(many, all)
		}
	}
}
