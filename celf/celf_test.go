package celf

import (
	"math"
	"math/rand"
	"reflect"
	"slices"
	"strings"
	"testing"

	"curtilage/api"
)

const top = math.MaxUint64

// sample is an object that has some of everything.
func sample() api.Object {
	return api.Object{
		Name: "lib-a.1", Needed: []string{"b", "c"},
		Segments: []api.Segment{
			{At: 0, Size: 300, Flags: api.FlagRead | api.FlagRun, Bytes: []byte{1, 2, 3}},
			{At: 512, Size: 256, Flags: api.FlagRead | api.FlagWrite},
			{At: 1024, Size: 1, Flags: api.FlagRead, Bytes: []byte{9}},
		},
		Symbols: []api.Symbol{
			{Name: "f", At: 4, Size: 8, Kind: api.SymFunc, Bind: api.BindOuter, Seen: api.SeenAll, Defined: true},
			{Name: "d", Version: "v1", At: 513, Size: 3, Kind: api.SymData, Bind: api.BindLocal, Seen: api.SeenOwn, Defined: true},
			{Name: "g", Kind: api.SymFunc, Bind: api.BindWeak, Seen: api.SeenAll},
			{Name: "e", Version: "v2", Kind: api.SymData, Bind: api.BindOuter, Seen: api.SeenAll},
		},
		Relocs: []api.Reloc{{At: 512, Sym: 2}, {At: 576, Sym: 3}, {At: 640, Sym: 1}},
		Init:   []int{0}, Fini: []int{0, 0},
	}
}

// written is what the chapter says are an object's bytes.
func written(o api.Object) []byte {
	b := []byte("CELF\x01")
	n := func(x uint64, many int) {
		for range many {
			b = append(b, byte(x))
			x >>= 8
		}
	}
	text := func(s string) { b = append(append(b, byte(len(s))), s...) }
	text(o.Name)
	n(uint64(len(o.Needed)), 2)
	for _, s := range o.Needed {
		text(s)
	}
	n(uint64(len(o.Segments)), 2)
	for _, s := range o.Segments {
		n(s.At, 4)
		n(s.Size, 4)
		n(uint64(s.Flags), 1)
		n(uint64(len(s.Bytes)), 4)
		b = append(b, s.Bytes...)
	}
	n(uint64(len(o.Symbols)), 2)
	for _, s := range o.Symbols {
		text(s.Name)
		text(s.Version)
		n(s.At, 4)
		n(s.Size, 4)
		defined := uint64(0)
		if s.Defined {
			defined = 1
		}
		b = append(b, byte(s.Kind), byte(s.Bind), byte(s.Seen), byte(defined))
	}
	n(uint64(len(o.Relocs)), 2)
	for _, r := range o.Relocs {
		n(r.At, 4)
		n(uint64(r.Sym), 2)
	}
	for _, l := range [][]int{o.Init, o.Fini} {
		n(uint64(len(l)), 2)
		for _, x := range l {
			n(uint64(x), 2)
		}
	}
	return b
}

// flat is an object with nil for lists that are empty, so that both are the same.
func flat(o api.Object) api.Object {
	o.Segments = slices.Clone(o.Segments)
	for i, s := range o.Segments {
		if len(s.Bytes) == 0 {
			o.Segments[i].Bytes = nil
		}
	}
	for _, l := range []*[]int{&o.Init, &o.Fini} {
		if len(*l) == 0 {
			*l = nil
		}
	}
	return o
}

func same(a, b api.Object) bool { return reflect.DeepEqual(flat(a), flat(b)) }

func TestJ1At(t *testing.T) {
	o := sample()
	for i, x := range []struct {
		at, n uint64
		want  int
	}{
		{0, 300, 0}, {0, 301, -1}, {299, 1, 0}, {300, 1, -1}, {300, 0, 0}, {301, 0, -1}, {512, 256, 1}, {511, 1, -1}, {767, 1, 1}, {768, 0, 1}, {1024, 1, 2},
		{512, top, -1}, {513, top, -1}, {top, 1, -1}, {top, 0, -1}, {0, top, -1}, {1, top, -1}, {top, top, -1},
	} {
		if g := At(o, x.at, x.n); g != x.want {
			t.Errorf("%d: %d, not %d", i, g, x.want)
		}
	}
	odd := api.Object{Segments: []api.Segment{{At: 256, Size: top}, {At: 0, Size: 512}, {At: 0, Size: 1024}}}
	for _, x := range []struct {
		at, n uint64
		want  int
	}{{top, 1, 0}, {256, top, 0}, {257, top, -1}, {257, top - 1, 0}, {100, 9, 1}, {100, 900, 2}, {300, 1, 0}} {
		if g := At(odd, x.at, x.n); g != x.want {
			t.Errorf("%v: %d", x, g)
		}
	}
	if At(api.Object{}, 0, 0) != -1 {
		t.Error("nothing has something")
	}
}

// changed is one more thing wrong with a sample, and what Check says of it.
type changed struct {
	what   string
	change func(o *api.Object)
	e      api.Errno
}

func check(t *testing.T, l []changed) {
	t.Helper()
	for _, x := range l {
		o := sample()
		x.change(&o)
		if e := Check(o); e != x.e {
			t.Errorf("%s: %d, not %d", x.what, e, x.e)
		}
	}
}

func names(n int) []string {
	var l []string
	for i := range n {
		l = append(l, "n"+strings.Repeat("x", i))
	}
	return l
}

func TestJ2Right(t *testing.T) {
	check(t, []changed{
		{"full", func(o *api.Object) {}, api.OK},
		{"nothing", func(o *api.Object) { *o = api.Object{Name: "a"} }, api.OK},
		{"empty lists", func(o *api.Object) {
			*o = api.Object{Name: "a", Needed: []string{}, Segments: []api.Segment{}, Symbols: []api.Symbol{}, Relocs: []api.Reloc{}, Init: []int{}, Fini: []int{}}
		}, api.OK},
	})
}

func TestJ2Name(t *testing.T) {
	bad := func(name string) []changed {
		return []changed{
			{"name " + name, func(o *api.Object) { o.Name = name }, api.ErrName}, {"needed " + name, func(o *api.Object) { o.Needed[1] = name }, api.ErrName},
			{"symbol " + name, func(o *api.Object) { o.Symbols[2].Name = name }, api.ErrSymbol},
		}
	}
	for _, name := range []string{"", strings.Repeat("x", 31), "a b", "a/b", "a!", "\xff", "é", "a\n", "a:", "@"} {
		check(t, bad(name))
	}
	for _, name := range []string{strings.Repeat("x", 30), "9", "-", "_", ".", "AZaz09._-"} {
		check(t, []changed{
			{name, func(o *api.Object) { o.Name = name }, api.OK}, {name, func(o *api.Object) { o.Needed[0] = name }, api.OK}, {name, func(o *api.Object) { o.Symbols[0].Name = name }, api.OK},
			{name, func(o *api.Object) { o.Symbols[0].Version = name }, api.OK},
		})
	}
	check(t, []changed{
		{"itself", func(o *api.Object) { o.Needed[1] = o.Name }, api.ErrName}, {"twice", func(o *api.Object) { o.Needed[1] = "b" }, api.ErrName},
		{"ahead of all else", func(o *api.Object) { o.Needed = append(names(9), "") }, api.ErrName},
	})
}

func TestJ2Many(t *testing.T) {
	check(t, []changed{
		{"8 needed", func(o *api.Object) { o.Needed = names(8) }, api.OK}, {"9 needed", func(o *api.Object) { o.Needed = names(9) }, api.ErrMany},
		{"6 segments", func(o *api.Object) { o.Segments = append(o.Segments, segments(3)...) }, api.OK}, {"7 segments", func(o *api.Object) { o.Segments = append(o.Segments, segments(4)...) }, api.ErrMany},
		{"40 symbols", func(o *api.Object) { o.Symbols = append(o.Symbols, slices.Repeat(o.Symbols[:1], 36)...) }, api.OK},
		{"41 symbols", func(o *api.Object) { o.Symbols = append(o.Symbols, slices.Repeat(o.Symbols[:1], 37)...) }, api.ErrMany},
		{"60 relocations", func(o *api.Object) { relocs(o, 60) }, api.OK}, {"61 relocations", func(o *api.Object) { relocs(o, 61) }, api.ErrMany},
		{"8 init", func(o *api.Object) { o.Init = make([]int, 8) }, api.OK}, {"9 init", func(o *api.Object) { o.Init = make([]int, 9) }, api.ErrMany},
		{"8 fini", func(o *api.Object) { o.Fini = make([]int, 8) }, api.OK}, {"9 fini", func(o *api.Object) { o.Fini = make([]int, 9) }, api.ErrMany},
		{"ahead of all behind", func(o *api.Object) { o.Init, o.Segments[0].Size = make([]int, 9), 0 }, api.ErrMany},
	})
}

// segments are some behind those of the sample.
func segments(n int) []api.Segment {
	var l []api.Segment
	for i := range n {
		l = append(l, api.Segment{At: uint64(i+5) * 256, Size: 1, Flags: 1})
	}
	return l
}

// relocs gives o so many, and room for them.
func relocs(o *api.Object, n int) {
	o.Segments = []api.Segment{o.Segments[0], {At: 512, Size: 2048, Flags: 3}}
	o.Relocs = nil
	for i := range n {
		o.Relocs = append(o.Relocs, api.Reloc{At: 512 + uint64(i)*32, Sym: 3})
	}
}

func TestJ2Segment(t *testing.T) {
	set := func(f func(s *api.Segment)) func(o *api.Object) { return func(o *api.Object) { f(&o.Segments[2]) } }
	check(t, []changed{
		{"no page", set(func(s *api.Segment) { s.At = 1025 }), api.ErrSegment}, {"half a page", set(func(s *api.Segment) { s.At = 1152 }), api.ErrSegment},
		{"right behind", set(func(s *api.Segment) { s.At = 768 }), api.OK}, {"in the one ahead", set(func(s *api.Segment) { s.At = 512 }), api.ErrSegment}, {"ahead", set(func(s *api.Segment) { s.At = 0 }), api.ErrSegment},
		{"in the page that the one ahead ends in", func(o *api.Object) { o.Segments[1].At, o.Relocs = 256, nil }, api.ErrSegment},
		{"at the one ahead, of one byte", func(o *api.Object) { o.Segments = append(o.Segments, api.Segment{At: 1024, Size: 1, Flags: 1}) }, api.ErrSegment},
		{"in the page of one byte", func(o *api.Object) {
			o.Segments = append(o.Segments, api.Segment{At: 1280, Size: 1, Flags: 1}, api.Segment{At: 1280, Size: 1, Flags: 1})
		}, api.ErrSegment},
		{"size 0", set(func(s *api.Segment) { s.Size, s.Bytes = 0, nil }), api.ErrSegment}, {"size 2048", set(func(s *api.Segment) { s.Size = 2048 }), api.OK}, {"size 2049", set(func(s *api.Segment) { s.Size = 2049 }), api.ErrSegment},
		{"end 16384", set(func(s *api.Segment) { s.At, s.Size = 16128, 256 }), api.OK}, {"end 16385", set(func(s *api.Segment) { s.At, s.Size = 16128, 257 }), api.ErrSegment},
		{"at 16384", set(func(s *api.Segment) { s.At = 16384 }), api.ErrSegment}, {"round at 2^64", set(func(s *api.Segment) { s.At, s.Size = top-255, 256 }), api.ErrSegment},
		{"size round", set(func(s *api.Segment) { s.Size = top }), api.ErrSegment},
		{"all bytes", set(func(s *api.Segment) { s.Bytes = []byte{1} }), api.OK}, {"more bytes", set(func(s *api.Segment) { s.Bytes = []byte{1, 2} }), api.ErrSegment},
	})
	for flags := -1; flags < 20; flags++ {
		want := api.ErrSegment
		if flags >= 1 && flags <= 5 {
			want = api.OK
		}
		check(t, []changed{{"flags", set(func(s *api.Segment) { s.Flags = flags }), want}})
	}
	check(t, []changed{{"ahead of symbols", func(o *api.Object) { o.Segments[2].Flags, o.Symbols[0].Kind = 9, 9 }, api.ErrSegment}})
}

func TestJ2Symbol(t *testing.T) {
	f := func(c func(s *api.Symbol)) func(o *api.Object) { return func(o *api.Object) { c(&o.Symbols[0]) } }
	d := func(c func(s *api.Symbol)) func(o *api.Object) { return func(o *api.Object) { c(&o.Symbols[1]) } }
	u := func(c func(s *api.Symbol)) func(o *api.Object) { return func(o *api.Object) { c(&o.Symbols[2]) } }
	check(t, []changed{
		{"version", f(func(s *api.Symbol) { s.Version = "a b" }), api.ErrSymbol}, {"version of one not defined", u(func(s *api.Symbol) { s.Version = strings.Repeat("v", 31) }), api.ErrSymbol},
		{"kind 0", f(func(s *api.Symbol) { s.Kind = 0 }), api.ErrSymbol}, {"kind 3", u(func(s *api.Symbol) { s.Kind = 3 }), api.ErrSymbol}, {"kind below 0", u(func(s *api.Symbol) { s.Kind = -1 }), api.ErrSymbol},
		{"bind 0", f(func(s *api.Symbol) { s.Bind = 0 }), api.ErrSymbol}, {"bind 4", u(func(s *api.Symbol) { s.Bind = 4 }), api.ErrSymbol}, {"bind 3", f(func(s *api.Symbol) { s.Bind = 3 }), api.OK},
		{"seen 0", f(func(s *api.Symbol) { s.Seen = 0 }), api.ErrSymbol}, {"seen 3", u(func(s *api.Symbol) { s.Seen = 3 }), api.ErrSymbol},
		{"nowhere", f(func(s *api.Symbol) { s.At = 400 }), api.ErrSymbol}, {"over the end", f(func(s *api.Symbol) { s.Size = 297 }), api.ErrSymbol}, {"to the end", f(func(s *api.Symbol) { s.Size = 296 }), api.OK},
		{"round", f(func(s *api.Symbol) { s.Size = top - 2 }), api.ErrSymbol},
		{"data in code", d(func(s *api.Symbol) { s.At = 8 }), api.ErrSymbol}, {"a function in data", f(func(s *api.Symbol) { s.At = 512 }), api.ErrSymbol}, {"a function in what is read", f(func(s *api.Symbol) { s.At, s.Size = 1024, 1 }), api.ErrSymbol},
		{"data in what is read", d(func(s *api.Symbol) { s.At, s.Size = 1024, 1 }), api.OK},
		{"a crooked function", f(func(s *api.Symbol) { s.At = 6 }), api.ErrSymbol}, {"a function of no bytes", f(func(s *api.Symbol) { s.Size = 0 }), api.ErrSymbol}, {"a function of one byte", f(func(s *api.Symbol) { s.Size = 1 }), api.OK}, {"data of no bytes", d(func(s *api.Symbol) { s.Size = 0 }), api.OK},
		{"data of no bytes at the end", d(func(s *api.Symbol) { s.At, s.Size = 768, 0 }), api.OK}, {"data of no bytes behind", d(func(s *api.Symbol) { s.At, s.Size = 769, 0 }), api.ErrSymbol},
		{"at, not defined", u(func(s *api.Symbol) { s.At = 4 }), api.ErrSymbol}, {"size, not defined", u(func(s *api.Symbol) { s.Size = 4 }), api.ErrSymbol},
		{"local, not defined", u(func(s *api.Symbol) { s.Bind = api.BindLocal }), api.ErrSymbol}, {"own, not defined", u(func(s *api.Symbol) { s.Seen = api.SeenOwn }), api.ErrSymbol},
		{"ahead of relocations", func(o *api.Object) { o.Symbols[3].Kind, o.Relocs[0].At = 9, 9 }, api.ErrSymbol},
	})
}

func TestJ2Reloc(t *testing.T) {
	r := func(i int, c func(r *api.Reloc)) func(o *api.Object) { return func(o *api.Object) { c(&o.Relocs[i]) } }
	check(t, []changed{
		{"crooked", r(2, func(r *api.Reloc) { r.At = 656 }), api.ErrReloc}, {"no symbol", r(2, func(r *api.Reloc) { r.Sym = 4 }), api.ErrReloc}, {"below 0", r(2, func(r *api.Reloc) { r.Sym = -1 }), api.ErrReloc},
		{"in the second granule of a function's", r(1, func(r *api.Reloc) { r.At = 544 }), api.ErrReloc}, {"at the one ahead", r(2, func(r *api.Reloc) { r.At = 576 }), api.ErrReloc},
		{"right behind data's", r(2, func(r *api.Reloc) { r.At = 608 }), api.OK}, {"falling", r(2, func(r *api.Reloc) { r.At = 512 }), api.ErrReloc},
		{"last granule", r(2, func(r *api.Reloc) { r.At = 736 }), api.OK}, {"last granule, of a function", r(2, func(r *api.Reloc) { r.At, r.Sym = 736, 0 }), api.ErrReloc}, {"last two", r(2, func(r *api.Reloc) { r.At, r.Sym = 704, 0 }), api.OK},
		{"behind", r(2, func(r *api.Reloc) { r.At = 768 }), api.ErrReloc}, {"in what is read", r(2, func(r *api.Reloc) { r.At = 1024 }), api.ErrReloc}, {"in code", r(0, func(r *api.Reloc) { r.At = 0 }), api.ErrReloc},
		{"far", r(2, func(r *api.Reloc) { r.At = top - 31 }), api.ErrReloc},
		{"ahead of lists", func(o *api.Object) { o.Relocs[0].Sym, o.Init = 77, []int{77} }, api.ErrReloc},
	})
}

func TestJ2List(t *testing.T) {
	for _, n := range []int{-1, 1, 2, 3, 4, math.MinInt, math.MaxInt} {
		check(t, []changed{
			{"init", func(o *api.Object) { o.Init = []int{0, n} }, api.ErrList}, {"fini", func(o *api.Object) { o.Fini = []int{0, n} }, api.ErrList},
		})
	}
	check(t, []changed{{"of others", func(o *api.Object) { o.Symbols[0].Bind = api.BindLocal }, api.OK}})
}

func TestJ3Parse(t *testing.T) {
	b := written(sample())
	o, e := Parse(b)
	if e != api.OK || !same(o, sample()) {
		t.Fatalf("%+v, %d", o, e)
	}
	clear(b)
	if !same(o, sample()) {
		t.Error("what was handed in is shared")
	}
	if o, e := Parse([]byte("CELF\x01\x01a" + strings.Repeat("\x00", 12))); e != api.OK || !same(o, api.Object{Name: "a"}) {
		t.Errorf("%+v, %d", o, e)
	}
}

func TestJ3Errors(t *testing.T) {
	small := "CELF\x01\x01a" + strings.Repeat("\x00", 12)
	symbol := "CELF\x01\x01a" + strings.Repeat("\x00", 4) + "\x01\x00\x01f" + strings.Repeat("\x00", 9) + "\x01\x02\x01"
	for i, x := range []struct {
		b string
		e api.Errno
	}{
		{"", api.ErrMagic}, {"CELF", api.ErrMagic}, {"CELF\x02", api.ErrMagic}, {"celf\x01", api.ErrMagic}, {"xCELF\x01", api.ErrMagic}, {"CELF\x01", api.ErrShort}, {"CELF\x01\x05abcd", api.ErrShort},
		{small, api.OK}, {small + "\x00", api.ErrTail}, {small[:len(small)-1], api.ErrShort}, {"CELF\x01\x00" + strings.Repeat("\x00", 12), api.ErrName}, {"CELF\x01\x00" + strings.Repeat("\x00", 13), api.ErrTail},
		{"CELF\x01\x01a\xff\xff", api.ErrShort}, {"CELF\x01\x01a\x00\x00\x01\x00" + strings.Repeat("\xff", 13) + "abc", api.ErrShort},
		{symbol + "\x00" + strings.Repeat("\x00", 6), api.OK}, {symbol + "\x02" + strings.Repeat("\x00", 6), api.ErrSymbol}, {symbol + "\x02", api.ErrSymbol}, {symbol + "\xff" + strings.Repeat("\x00", 99), api.ErrSymbol},
		{symbol, api.ErrShort}, {symbol + "\x00", api.ErrShort}, {symbol + "\x01" + strings.Repeat("\x00", 6), api.ErrSymbol},
		{strings.Replace(symbol, "\x01f", "\x01!", 1) + "\x02", api.ErrSymbol},
	} {
		o, e := Parse([]byte(x.b))
		if e != x.e || e != api.OK && !reflect.DeepEqual(o, api.Object{}) {
			t.Errorf("%d: %d, not %d", i, e, x.e)
		}
	}
	bad := sample()
	bad.Relocs[0].Sym = 9
	if o, e := Parse(written(bad)); e != api.ErrReloc || !reflect.DeepEqual(o, api.Object{}) {
		t.Error(o, e)
	}
	bad.Symbols[0].Name = "" // what is wrong is told by Check alone, when all was read
	if _, e := Parse(append(written(bad), 1)); e != api.ErrTail {
		t.Error(e)
	}
}

func TestJ4CutShort(t *testing.T) {
	b := written(sample())
	for n := range b {
		want := api.ErrShort
		if n < 5 {
			want = api.ErrMagic
		}
		if o, e := Parse(b[:n]); e != want || !reflect.DeepEqual(o, api.Object{}) {
			t.Fatal(n, e)
		}
		if _, e := Parse(append(slices.Clone(b), b[:n+1]...)); e != api.ErrTail {
			t.Fatal(n, e)
		}
	}
}

func TestJ4OneObjectOneList(t *testing.T) {
	r := rand.New(rand.NewSource(11))
	b := written(sample())
	parsed := 0
	for range 40000 {
		c := slices.Clone(b)
		for range 1 + r.Intn(3) {
			c[r.Intn(len(c))] = []byte{0, 1, 2, 3, 'a', 'f', 32, 64, 255, byte(r.Intn(256))}[r.Intn(10)]
		}
		o, e := Parse(c)
		if e != api.OK {
			continue
		}
		parsed++
		if !slices.Equal(written(o), c) || Check(o) != api.OK {
			t.Fatal(c)
		}
	}
	if parsed < 100 {
		t.Error("hardly any were objects", parsed)
	}
}

func TestR1AnyBytes(t *testing.T) {
	r := rand.New(rand.NewSource(12))
	for range 20000 {
		b := []byte("CELF\x01\x01a")
		for range r.Intn(40) {
			b = append(b, byte(r.Intn(4)*r.Intn(90)))
		}
		if o, e := Parse(b); e != api.OK && !reflect.DeepEqual(o, api.Object{}) {
			t.Fatal(b, e)
		}
	}
}
