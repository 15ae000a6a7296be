package table

import (
	"math"
	"slices"
	"testing"

	"curtilage/api"
	"curtilage/cap"
	"curtilage/image"
	"curtilage/tagmem"
)

func part(from, end, at uint64, perms, typ int) api.Cap {
	return api.Cap{Base: from, Top: end, At: at, Perms: perms, Type: typ, Tag: true}
}

func symbol2(name string, kind int, at, size uint64) api.Symbol {
	return api.Symbol{Name: name, Kind: kind, At: at, Size: size, Bind: api.BindOuter, Seen: api.SeenAll, Defined: true}
}

func used(name string, kind int) api.Symbol {
	return api.Symbol{Name: name, Kind: kind, Bind: api.BindWeak, Seen: api.SeenAll}
}

// objects are one that uses a function and data, as both, and one that defines them.
func objects() []api.Object {
	return []api.Object{
		{
			Name:     "user",
			Segments: []api.Segment{{At: 0, Size: 512, Flags: 3}},
			Symbols:  []api.Symbol{used("f", api.SymFunc), used("f", api.SymData)},
			Relocs:   []api.Reloc{{At: 32, Sym: 0}, {At: 96, Sym: 1}},
		},
		{
			Name:     "lib",
			Segments: []api.Segment{{At: 0, Size: 8, Flags: 5}, {At: 256, Size: 300, Flags: 3}, {At: 768, Size: 9, Flags: 1}},
			Symbols:  []api.Symbol{symbol2("f", api.SymFunc, 4, 4), symbol2("d", api.SymData, 300, 2), symbol2("r", api.SymData, 768, 9), symbol2("e", api.SymData, 556, 0)},
		},
		{Name: "bare", Segments: []api.Segment{{At: 0, Size: 8, Flags: 4}}, Symbols: []api.Symbol{symbol2("g", api.SymFunc, 0, 8)}},
	}
}

func TestR1Types(t *testing.T) {
	for i, x := range []struct {
		many, first int
		want        []int
		e           api.Errno
	}{
		{3, 5, []int{5, 6, 7}, api.OK}, {0, 0, nil, api.OK}, {0, 64, nil, api.OK}, {1, 63, []int{63}, api.OK}, {2, 62, []int{62, 63}, api.OK}, {1, 64, nil, api.ErrTypes}, {0, 65, nil, api.ErrTypes}, {2, 63, nil, api.ErrTypes},
		{-1, 5, nil, api.ErrTypes}, {1, -1, nil, api.ErrTypes}, {0, -1, nil, api.ErrTypes}, {65, 0, nil, api.ErrTypes}, {math.MaxInt, 5, nil, api.ErrTypes}, {5, math.MaxInt, nil, api.ErrTypes}, {math.MinInt, math.MinInt, nil, api.ErrTypes},
	} {
		if g, e := Types(x.many, x.first); !slices.Equal(g, x.want) || e != x.e {
			t.Errorf("%d: %v, %d", i, g, e)
		}
	}
	if g, e := Types(64, 0); len(g) != 64 || g[63] != 63 || e != api.OK {
		t.Error(g, e)
	}
}

func TestR2Data(t *testing.T) {
	o := objects()[1]
	for sym, want := range map[int]api.Cap{1: part(1324, 1326, 1324, 27, -1), 2: part(1792, 1801, 1792, 9, -1), 3: part(1580, 1580, 1580, 27, -1)} {
		if g := Data(o, 1024, sym); g != want {
			t.Errorf("%d: %+v", sym, g)
		}
	}
	for _, sym := range []int{-1, 4, math.MaxInt} {
		if Data(o, 1024, sym).Tag {
			t.Error(sym)
		}
	}
}

func TestR3Entry(t *testing.T) {
	l := objects()
	if code, data := Entry(l[1], 1024, 0, 5); code != part(1024, 1032, 1028, 141, 5) || data != part(1280, 1580, 1280, 155, 5) {
		t.Errorf("%+v, %+v", code, data)
	}
	if code, data := Entry(l[2], 2048, 0, 63); code != part(2048, 2056, 2048, 132, 63) || data != part(2048, 2048, 2048, 129, 63) {
		t.Errorf("%+v, %+v", code, data)
	}
	if code, data := Entry(l[2], 2048, 0, 0); code.Type != 0 || data.Type != 0 || !code.Tag || !data.Tag {
		t.Errorf("%+v, %+v", code, data)
	}
	for _, x := range [][2]int{{-1, 5}, {1, 5}, {0, -1}, {0, 64}, {0, math.MinInt}} {
		if code, data := Entry(l[2], 0, x[0], x[1]); code.Tag || data.Tag {
			t.Error(x, code, data)
		}
	}
}

func TestR4Slot(t *testing.T) {
	l, bases, types := objects(), []uint64{4096, 1024, 2048}, []int{8, 5, 9}
	code, own := Entry(l[1], 1024, 0, 5)
	bareCode, bareOwn := Entry(l[2], 2048, 0, 9)
	d := Data(l[1], 1024, 1)
	for i, x := range []struct {
		link api.Link
		want []api.Cap
		at   uint64
	}{
		{api.Link{Obj: 0, Reloc: 0, To: 1, Sym: 0}, []api.Cap{code, own}, 4128}, {api.Link{Obj: 0, Reloc: 1, To: 1, Sym: 0}, []api.Cap{code}, 4192},
		{api.Link{Obj: 0, Reloc: 0, To: 1, Sym: 1}, []api.Cap{d, cap.Null()}, 4128}, {api.Link{Obj: 0, Reloc: 1, To: 1, Sym: 1}, []api.Cap{d}, 4192},
		{api.Link{Obj: 0, Reloc: 0, To: -1, Sym: -1}, []api.Cap{cap.Null(), cap.Null()}, 4128}, {api.Link{Obj: 0, Reloc: 1, To: -1, Sym: -1}, []api.Cap{cap.Null()}, 4192},
		{api.Link{Obj: 0, Reloc: 0, To: 2, Sym: 0}, []api.Cap{bareCode, bareOwn}, 4128},
	} {
		if g, at := Slot(l, bases, types, x.link); !slices.Equal(g, x.want) || at != x.at {
			t.Errorf("%d: %+v, %d", i, g, at)
		}
	}
	turned := []api.Object{{Segments: []api.Segment{{At: 0, Size: 8, Flags: 5}}, Symbols: []api.Symbol{symbol2("f", api.SymFunc, 0, 8), symbol2("w", api.SymFunc, 4, 4)}}, l[0]}
	if g, at := Slot(turned, []uint64{1024, 4096}, []int{8, 9}, api.Link{Obj: 1, Reloc: 0, To: 0, Sym: 1}); len(g) != 2 || g[0] != part(1024, 1032, 1028, 141, 8) || g[1] != part(1024, 1024, 1024, 129, 8) || at != 4128 {
		t.Errorf("of the first object: %+v, %d", g, at)
	}
	for i, x := range []api.Link{{Obj: -1}, {Obj: 3}, {Obj: 0, Reloc: 2}, {Obj: 0, Reloc: -1}, {Obj: 1}} {
		if g, at := Slot(l, bases, types, x); g != nil || at != 0 {
			t.Error(i, g, at)
		}
	}
	for i, x := range []api.Link{{To: 9}, {To: 1, Sym: 9}, {To: 1, Sym: -1}, {To: math.MinInt}} {
		if g, _ := Slot(l, bases, nil, x); len(g) != 2 || g[0].Tag || g[1].Tag {
			t.Error(i, g)
		}
	}
}

// mapped is a memory in which objects lie.
func mapped(t *testing.T, l []api.Object, bases []uint64) *tagmem.Mem {
	t.Helper()
	m, _ := tagmem.New(32)
	for i, o := range l {
		if e := image.Map(m, o, bases[i]); e != api.OK {
			t.Fatal(e)
		}
	}
	return m
}

func TestR5Fill(t *testing.T) {
	l, bases, types := objects(), []uint64{4096, 1024, 2048}, []int{8, 5, 9}
	m := mapped(t, l, bases)
	links := []api.Link{{Obj: 0, Reloc: 1, To: 1, Sym: 1}, {Obj: 0, Reloc: 0, To: 1, Sym: 0}}
	if e := Fill(m, l, bases, types, links); e != api.OK {
		t.Fatal(e)
	}
	if g := m.Tags(); !slices.Equal(g, []uint64{4128, 4160, 4192}) {
		t.Error(g)
	}
	for _, x := range links {
		given, at := Slot(l, bases, types, x)
		for i, c := range given {
			if g, e := m.LoadCap(at + uint64(i)*32); g != c || e != api.OK {
				t.Error(g, c, e)
			}
		}
	}
	if e := Fill(m, l, bases, types, []api.Link{{Obj: 0, Reloc: 0, To: -1, Sym: -1}}); e != api.OK || !slices.Equal(m.Tags(), []uint64{4192}) {
		t.Error(e, m.Tags())
	}
	if e := Fill(m, l, bases, types, nil); e != api.OK {
		t.Error(e)
	}
}

func TestR5ErrorsChangeNothing(t *testing.T) {
	l, types := objects(), []int{8, 5, 9}
	m := mapped(t, l, []uint64{4096, 1024, 2048})
	links := []api.Link{{Obj: 0, Reloc: 0, To: 1, Sym: 0}, {Obj: 0, Reloc: 1, To: 1, Sym: 1}}
	for base, want := range map[uint64]api.Errno{4097: api.ErrAlign, 8192: api.ErrPage, 4096 + 512 - 96: api.ErrPage, 4096 + 512 - 64: api.ErrPage, 4096 + 512 - 128: api.OK} {
		e := Fill(m, l, []uint64{base, 1024, 2048}, types, links)
		if e != want || e != api.OK && len(m.Tags()) != 0 {
			t.Errorf("%d: %d, %v", base, e, m.Tags())
		}
		if e == api.OK {
			Fill(m, l, []uint64{base, 1024, 2048}, types, []api.Link{{Obj: 0, Reloc: 0, To: -1, Sym: -1}, {Obj: 0, Reloc: 1, To: -1, Sym: -1}})
		}
	}
	if e := Fill(nil, l, []uint64{4096, 1024, 2048}, types, links); e != api.ErrPage {
		t.Error(e)
	}
}

func TestR6PairsAreInvokedAndNothingElse(t *testing.T) {
	l := objects()
	for i, sym := range map[int]int{1: 0, 2: 0} {
		code, own := Entry(l[i], 1024, sym, 7)
		for _, c := range []api.Cap{code, own} {
			if cap.Check(c, 0, 0) != api.ErrSeal || c.Perms&(api.MaySeal|api.MayUnseal) != 0 || c.Perms&api.MayInvoke == 0 || c.Perms&(api.MayRun|api.MayStore) == api.MayRun|api.MayStore {
				t.Errorf("%+v", c)
			}
		}
		if code.Type != own.Type || code.Perms&api.MayRun == 0 || own.Perms&api.MayRun != 0 {
			t.Errorf("%+v, %+v", code, own)
		}
	}
}
