package build

import (
	"math/rand"
	"reflect"
	"slices"
	"strings"
	"testing"

	"curtilage/api"
	"curtilage/celf"
)

func text(lines ...string) string { return strings.Join(lines, "\n") }

// sample is a text that has a line of every sort.
func sample() string {
	return text("# a library", "name lib", "needs b", "  needs c  ", "", "code 0", "x:  ; round", "addi c1, c1, 1", "", "cjal c0, x", "end", "data 256 128 3 0aff",
		"def func f 0 8 outer all v1", "def var d 258 4 local own", "use func g weak", "use var e outer v2", "def func f 4 4 weak all", "slot 256 g", "slot 320 e", "slot 352 f", "init f", "fini f", "fini f")
}

func object() api.Object {
	return api.Object{
		Name: "lib", Needed: []string{"b", "c"},
		Segments: []api.Segment{{At: 0, Size: 8, Flags: 5, Bytes: []byte{0x93, 0x80, 0x10, 0, 0x6f, 0xf0, 0xdf, 0xff}}, {At: 256, Size: 128, Flags: 3, Bytes: []byte{10, 255}}},
		Symbols: []api.Symbol{
			{Name: "f", Version: "v1", At: 0, Size: 8, Kind: api.SymFunc, Bind: api.BindOuter, Seen: api.SeenAll, Defined: true},
			{Name: "d", At: 258, Size: 4, Kind: api.SymData, Bind: api.BindLocal, Seen: api.SeenOwn, Defined: true},
			{Name: "g", Kind: api.SymFunc, Bind: api.BindWeak, Seen: api.SeenAll},
			{Name: "e", Version: "v2", Kind: api.SymData, Bind: api.BindOuter, Seen: api.SeenAll},
			{Name: "f", At: 4, Size: 4, Kind: api.SymFunc, Bind: api.BindWeak, Seen: api.SeenAll, Defined: true},
		},
		Relocs: []api.Reloc{{At: 256, Sym: 2}, {At: 320, Sym: 3}},
		Init:   []int{0}, Fini: []int{0, 0},
	}
}

func TestK1Make(t *testing.T) {
	b, e := Make(api.Object{Name: "a"})
	if e != api.OK || string(b) != "CELF\x01\x01a"+strings.Repeat("\x00", 12) {
		t.Error(b, e)
	}
	o := object()
	b, e = Make(o)
	want := "CELF\x01\x03lib\x02\x00\x01b\x01c" +
		"\x02\x00\x00\x00\x00\x00\x08\x00\x00\x00\x05\x08\x00\x00\x00\x93\x80\x10\x00\x6f\xf0\xdf\xff" + "\x00\x01\x00\x00\x80\x00\x00\x00\x03\x02\x00\x00\x00\x0a\xff" +
		"\x05\x00\x01f\x02v1\x00\x00\x00\x00\x08\x00\x00\x00\x01\x02\x01\x01" + "\x01d\x00\x02\x01\x00\x00\x04\x00\x00\x00\x02\x01\x02\x01" + "\x01g\x00\x00\x00\x00\x00\x00\x00\x00\x00\x01\x03\x01\x00" +
		"\x01e\x02v2\x00\x00\x00\x00\x00\x00\x00\x00\x02\x02\x01\x00" + "\x01f\x00\x04\x00\x00\x00\x04\x00\x00\x00\x01\x03\x01\x01" +
		"\x02\x00\x00\x01\x00\x00\x02\x00\x40\x01\x00\x00\x03\x00" + "\x01\x00\x00\x00" + "\x02\x00\x00\x00\x00\x00"
	if e != api.OK || string(b) != want {
		t.Errorf("%q, %d", b, e)
	}
}

func TestK1Errors(t *testing.T) {
	for want, change := range map[api.Errno]func(o *api.Object){
		api.ErrName: func(o *api.Object) { o.Name = "" }, api.ErrMany: func(o *api.Object) { o.Init = make([]int, 9) }, api.ErrSegment: func(o *api.Object) { o.Segments[0].Flags = 0 },
		api.ErrSymbol: func(o *api.Object) { o.Symbols[0].Kind = -1 }, api.ErrReloc: func(o *api.Object) { o.Relocs[0].At = 1 }, api.ErrList: func(o *api.Object) { o.Fini = []int{99} },
	} {
		o := object()
		change(&o)
		if b, e := Make(o); b != nil || e != want {
			t.Error(len(b), e, want)
		}
	}
}

func TestK2Source(t *testing.T) {
	o, line, e := Source(strings.Replace(sample(), "\nslot 352 f", "", 1))
	if line != 0 || e != api.OK || !reflect.DeepEqual(o, object()) {
		t.Errorf("%+v, line %d, %d", o, line, e)
	}
	// The first one of two of that name is meant, which is a function and takes two granules: the segment has no more.
	if _, line, e := Source(sample()); line != 0 || e != api.ErrReloc {
		t.Error(line, e)
	}
}

func TestK2SmallSources(t *testing.T) {
	for i, x := range []struct {
		text string
		want api.Object
	}{
		{"name a", api.Object{Name: "a"}}, {"name a\n", api.Object{Name: "a"}}, {"name a\nname b", api.Object{Name: "b"}}, {"\n  \n  # name b\n#\nname a", api.Object{Name: "a"}},
		{"name a\ndata 0 5 1 -", api.Object{Name: "a", Segments: []api.Segment{{Size: 5, Flags: 1}}}},
		{"name a\ndata 0 5 7 -", api.Object{}}, {"name a\ndata 512 2048 2 00ff", api.Object{Name: "a", Segments: []api.Segment{{At: 512, Size: 2048, Flags: 2, Bytes: []byte{0, 255}}}}},
		{"name a\ncode 256\necall\n end ", api.Object{Name: "a", Segments: []api.Segment{{At: 256, Size: 4, Flags: 5, Bytes: []byte{0x73, 0, 0, 0}}}}},
		{"needs b\nname a", api.Object{Name: "a", Needed: []string{"b"}}},
		{"name a\nuse func f outer -", api.Object{Name: "a", Symbols: []api.Symbol{{Name: "f", Version: "-", Kind: 1, Bind: 2, Seen: 1}}}},
		{"name a\nuse func f outer ", api.Object{Name: "a", Symbols: []api.Symbol{{Name: "f", Kind: 1, Bind: 2, Seen: 1}}}},
	} {
		o, line, e := Source(x.text)
		if (e == api.OK) != (x.want.Name != "") || line != 0 || !reflect.DeepEqual(o, x.want) {
			t.Errorf("%d: %+v, line %d, %d", i, o, line, e)
		}
	}
}

func TestK2FirstOfAName(t *testing.T) {
	o, line, e := Source(text("name a", "code 0", "ecall", "ecall", "end", "data 256 256 2 -", "def func g 0 4 outer all", "def func f 4 4 outer all", "def func f 0 8 local own", "slot 256 f", "init f", "fini f", "use var f2 weak", "slot 320 f2"))
	if line != 0 || e != api.OK || !slices.Equal(o.Relocs, []api.Reloc{{At: 256, Sym: 1}, {At: 320, Sym: 3}}) || !slices.Equal(o.Init, []int{1}) || !slices.Equal(o.Fini, []int{1}) {
		t.Errorf("%+v, line %d, %d", o, line, e)
	}
}

func TestK2WrongLines(t *testing.T) {
	for _, line := range []string{
		"x", "Name a", "name", "name a b", "name  a", "needs", "needs a b", "code", "code x", "code 00", "code -1", "code 1000000", "code 0 0", "end", "data 0 5 1", "data 0 5 1 - -", "data x 5 1 -",
		"data 0 05 1 -", "data 0 5 -1 -", "data 0 5 1 f", "data 0 5 1 0F", "data 0 5 1 0g", "data 0 5 1 --", "data 0 5 1 0a ff", "data 0 5  1 -", "data 0 5 +1 -", "def func f 0 4 outer", "def func f 0 4 outer all v w",
		"def fun f 0 4 outer all", "def var f 0 4 global all", "def var f 0 4 outer none", "def var f x 4 outer all", "def var f 0 y outer all", "def var f 0 1000000 outer all", "def  var f 0 4 outer all",
		"use func f", "use func f outer v w", "use data f outer", "use func f all", "slot 0", "slot 0 g", "slot x f", "slot 0 f f", "slot f", "init", "init g", "init f f", "fini", "fini g", "fini f f", "\tname a", "name a\r", "name a # b",
	} {
		lines := []string{"name a", "code 0", "ecall", "end", "def func f 0 4 outer all", line, "also wrong"}
		want := 6
		if line == "name a\r" {
			lines[5], want = line, 7 // a name as good as others, until it is checked; what is behind it is wrong
		}
		o, n, e := Source(text(lines...))
		if n != want || e != api.ErrLine || !reflect.DeepEqual(o, api.Object{}) {
			t.Errorf("%q: line %d, %d", line, n, e)
		}
	}
	for i, x := range []struct {
		text string
		line int
		e    api.Errno
	}{
		{"code 0\nfoo\nend", 2, api.ErrAsm}, {"code 0", 1, api.ErrLine}, {"slot 0 f", 1, api.ErrLine}, {"", 0, api.ErrName}, {"name a b\nfoo", 1, api.ErrLine}, {"name a!", 0, api.ErrName},
		{"\ncode 0\nx:\n\nx:\nend", 5, api.ErrLabel}, {"code 0\ncjal c0, y\nend", 2, api.ErrLabel}, {"code 0\n# x\nend", 2, api.ErrAsm}, {"code 0\nfoo", 1, api.ErrLine}, {"code 0\nfoo\nend\nbar", 2, api.ErrAsm},
		{"foo\ncode 0\nfoo\nend", 1, api.ErrLine}, {"code 0\nend\ncode 0\nend ;", 3, api.ErrLine}, {"code 0\ncode 0\nend", 2, api.ErrAsm}, {"code 0\necall\nend\nend", 4, api.ErrLine},
		{"name a\ndata 999999 1 1 -", 0, api.ErrSegment}, {"name a\ndata 0 1 999999 -", 0, api.ErrSegment}, {"name a\ndata 1000000 1 1 -", 2, api.ErrLine}, {"name a\ncode 999999\nend", 0, api.ErrSegment},
		{"init f\ndef func f 0 4 outer all", 1, api.ErrLine}, {"code 0\nend", 0, api.ErrName}, {"name a\ncode 0\nend", 0, api.ErrSegment}, {"name a\nneeds a", 0, api.ErrName}, {"name a\ndata 0 1 2 0000", 0, api.ErrSegment},
		{"name a\nuse func f local", 0, api.ErrSymbol}, {"name a\ndef var f 0 4 outer all", 0, api.ErrSymbol}, {"name a\nuse func f outer\ninit f", 0, api.ErrList}, {"name a\nuse func f outer\nslot 0 f", 0, api.ErrReloc},
		{"name a" + strings.Repeat("\nneeds b", 9), 0, api.ErrName}, {"name a\nneeds 1\nneeds 2\nneeds 3\nneeds 4\nneeds 5\nneeds 6\nneeds 7\nneeds 8\nneeds 9", 0, api.ErrMany},
	} {
		o, n, e := Source(x.text)
		if n != x.line || e != x.e || !reflect.DeepEqual(o, api.Object{}) {
			t.Errorf("%d: %q: line %d, %d", i, x.text, n, e)
		}
	}
}

func TestK2Long(t *testing.T) {
	long := "name a" + strings.Repeat("\n", api.MaxText-6)
	if o, line, e := Source(long); o.Name != "a" || line != 0 || e != api.OK {
		t.Error(o, line, e)
	}
	if o, line, e := Source(long + "\n"); o.Name != "" || line != 0 || e != api.ErrLong {
		t.Error(o, line, e)
	}
	if _, line, e := Source("foo" + long); line != 0 || e != api.ErrLong {
		t.Error(line, e)
	}
}

func TestK3BothWays(t *testing.T) {
	r := rand.New(rand.NewSource(13))
	pick := func(l ...string) string { return l[r.Intn(len(l))] }
	made := 0
	for range 20000 {
		lines := []string{"name a", "code 0", "ecall", "ecall", "end", "data " + pick("256", "512") + " " + pick("64", "128", "2000") + " 3 " + pick("-", "00", "0102ff")}
		for range r.Intn(8) {
			lines = append(lines, pick("needs "+pick("b", "c", "d"), "data "+pick("4096", "8192")+" 7 1 0000", "def func "+pick("f", "g")+" "+pick("0", "4")+" 4 "+pick("local", "outer", "weak")+" "+pick("all", "own")+pick("", " v1"),
				"use "+pick("func", "var")+" "+pick("f", "h")+" "+pick("outer", "weak")+pick("", " v2"), "slot "+pick("256", "288", "512", "544")+" "+pick("f", "g", "h"), "init f", "fini "+pick("f", "g")))
		}
		o, _, e := Source(text(lines...))
		if e != api.OK {
			continue
		}
		made++
		b, e := Make(o)
		if e != api.OK {
			t.Fatal(lines, e)
		}
		p, e := celf.Parse(b)
		if e != api.OK || !reflect.DeepEqual(p, o) {
			t.Fatalf("%q: %+v, not %+v (%d)", lines, p, o, e)
		}
		if again, e := Make(p); e != api.OK || !slices.Equal(again, b) {
			t.Fatal(lines, e)
		}
	}
	if made < 500 {
		t.Error("hardly any were objects", made)
	}
}
