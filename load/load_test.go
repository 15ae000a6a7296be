package load

import (
	"reflect"
	"slices"
	"strconv"
	"strings"
	"testing"

	"curtilage/abi"
	"curtilage/api"
	"curtilage/build"
	"curtilage/cap"
	"curtilage/cpu"
	"curtilage/image"
	"curtilage/reach"
	"curtilage/run"
	"curtilage/table"
)

// file is the bytes of an object that is written as lines, a `/` between.
func file(t *testing.T, text string) []byte {
	t.Helper()
	o, line, e := build.Source(strings.ReplaceAll(text, "/", "\n"))
	if e != api.OK {
		t.Fatalf("%q: line %d, %d", text, line, e)
	}
	b, e := build.Make(o)
	if e != api.OK {
		t.Fatal(e)
	}
	return b
}

func files(t *testing.T, texts ...string) [][]byte {
	t.Helper()
	var l [][]byte
	for _, text := range texts {
		l = append(l, file(t, text))
	}
	return l
}

const (
	bare = "name a/code 0/ecall/end/def func main 0 4 outer all"
	prog = "name prog/needs lib/data 0 100 1 0102/code 256/ecall/addi c1, c1, 1/ecall/end/data 512 256 3 -/def func main 260 8 local own/use func f outer v1/use var d outer/use func w weak/slot 544 f/slot 608 d/slot 640 w"
	lib  = "name lib/needs deep/code 0/ecall/ecall/end/data 256 64 3 0a0b0c/def func f 4 4 outer all v1/def var d 257 2 outer all/use var x outer/slot 288 x/init f"
	deep = "name deep/data 0 16 1 -/def var x 8 8 outer all"
	none = "name none/needs nowhere"
)

func loaded(t *testing.T, l [][]byte, root string, args, env []string) Image {
	t.Helper()
	x, e := Load(l, root, args, env)
	if e != api.OK {
		t.Fatal(e)
	}
	return x
}

func part(from, end, at uint64, perms int) api.Cap {
	return api.Cap{Base: from, Top: end, At: at, Perms: perms, Type: -1, Tag: true}
}

func TestT1Main(t *testing.T) {
	f := api.Symbol{Name: "main", Kind: api.SymFunc, Bind: api.BindLocal, Seen: api.SeenOwn, Defined: true}
	other, used, data := f, f, f
	other.Name, used.Defined, data.Kind = "mains", false, api.SymData
	for i, x := range []struct {
		l    []api.Symbol
		want int
	}{{nil, -1}, {[]api.Symbol{f}, 0}, {[]api.Symbol{other, used, data, f, f}, 3}, {[]api.Symbol{other, used, data}, -1}} {
		if g := Main(api.Object{Symbols: x.l}); g != x.want {
			t.Errorf("%d: %d", i, g)
		}
	}
}

func TestT2Image(t *testing.T) {
	x := loaded(t, files(t, none, deep, lib, prog, bare), "prog", []string{"prog", "-v"}, []string{"A=1"})
	if len(x.Objects) != 5 || x.Objects[0].Name != "none" || x.Objects[3].Name != "prog" || !slices.Equal(x.Order, []int{3, 2, 1}) || !slices.Equal(x.Begin, []int{1, 2, 3}) {
		t.Error(x.Order, x.Begin)
	}
	if !slices.Equal(x.Bases, []uint64{0, 5376, 4864, 4096, 0}) || !slices.Equal(x.Types, []int{0, 10, 9, 8, 0}) {
		t.Error(x.Bases, x.Types)
	}
	if want := []api.Link{{Obj: 3, Reloc: 0, To: 2, Sym: 0}, {Obj: 3, Reloc: 1, To: 2, Sym: 1}, {Obj: 3, Reloc: 2, To: -1, Sym: -1}, {Obj: 2, Reloc: 0, To: 1, Sym: 0}}; !slices.Equal(x.Links, want) {
		t.Error(x.Links)
	}
	pages := []uint64{16, 17, 18, 19, 20, 21}
	for p := range uint64(16) {
		pages = append(pages, 192+p)
	}
	if l := x.Machine.Mem.Pages(); !slices.Equal(l, pages) {
		t.Error(l)
	}
	if e := x.Machine.Mem.Map(0, 16); e != api.OK || x.Machine.Mem.Map(208, 218) != api.OK || x.Machine.Mem.Map(500, 1) != api.ErrBudget {
		t.Error("the memory's budget")
	}
	if b := x.Machine.Mem.Bytes(4096, 3); string(b) != "\x01\x02\x00" || string(x.Machine.Mem.Bytes(5120, 3)) != "\n\v\f" {
		t.Error(b)
	}
}

func TestT2Machine(t *testing.T) {
	x := loaded(t, files(t, deep, lib, prog), "prog", []string{"prog", "-v"}, []string{"A=1"})
	m := x.Machine
	if m.PC != part(4352, 4364, 4356, 13) {
		t.Error(m.Text())
	}
	// 5, 3 and 4 bytes of texts; three, two and two granules.
	const from = 192 * 256
	start := abi.Start{Argv: part(from+32, from+96, from+32, 9), Envp: part(from+128, from+160, from+128, 9), Auxv: part(from+192, from+224, from+192, 9), Stack: part(from+256, from+4096, from+4096, 27)}
	if x.Start != start {
		t.Errorf("%+v", x.Start)
	}
	if c, _ := m.Mem.LoadCap(from + 192); c != part(4352, 4364, 4352, 9) {
		t.Errorf("%+v", c)
	}
	want := cpu.New(m.Mem, m.PC)
	want.Regs[2], want.Regs[10], want.Regs[11], want.Regs[12], want.Regs[13], want.Regs[31] = start.Stack, cap.Int(2), start.Argv, start.Envp, start.Auxv, part(4608, 4864, 4608, 27)
	if m.Regs != want.Regs {
		t.Error(m.Text())
	}
	x = loaded(t, files(t, bare), "a", nil, nil)
	if c := x.Machine.Regs[31]; c != part(4096, 4096, 4096, 1) || x.Machine.Regs[10] != cap.Int(0) || x.Machine.PC != part(4096, 4100, 4096, 13) {
		t.Errorf("%+v", c)
	}
}

func TestT2Slots(t *testing.T) {
	x := loaded(t, files(t, deep, lib, prog), "prog", nil, nil)
	code, own := table.Entry(x.Objects[1], 4864, 0, 9)
	for at, want := range map[uint64]api.Cap{4096 + 544: code, 4096 + 576: own, 4096 + 608: part(4864+257, 4864+259, 4864+257, 27), 4096 + 640: cap.Null(), 4096 + 672: cap.Null(), 4864 + 288: part(5384, 5392, 5384, 9)} {
		if c, e := x.Machine.Mem.LoadCap(at); c != want || e != api.OK {
			t.Errorf("%d: %+v, not %+v", at, c, want)
		}
	}
	if code.Type != 9 || own.Type != 9 || code.At != 4868 {
		t.Error(code, own)
	}
}

func TestT2Errors(t *testing.T) {
	good, long := files(t, deep, lib, prog, bare), []string{strings.Repeat("x", 201)}
	short := [][]byte{good[0][:len(good[0])-1]}
	big := "name big%/data 0 2048 3 -/data 2048 2048 3 -/data 4096 2048 3 -/data 6144 2048 3 -/data 8192 2048 3 -/data 10240 2048 3 -"
	with := func(l [][]byte, texts ...string) [][]byte { return append(slices.Clone(l), files(t, texts...)...) }
	numbered := func(text string, n int) string { return strings.Replace(text, "%", strconv.Itoa(n), 1) }
	needs := func(n int) string {
		text := "name huge/code 0/ecall/end/def func main 0 4 outer all"
		for i := range n {
			text += "/needs big" + strconv.Itoa(i)
		}
		return text
	}
	bigs := with(nil, numbered(big, 0), numbered(big, 1), numbered(big, 2), numbered(big, 3))
	chain := [][]byte{}
	for i := range 60 {
		text := "name n" + strconv.Itoa(i)
		if i == 0 {
			text += "/code 0/ecall/end/def func main 0 4 outer all"
		}
		if i < 59 {
			text += "/needs n" + strconv.Itoa(i+1)
		}
		chain = append(chain, file(t, text))
	}
	fewer := slices.Clone(chain)
	fewer[55] = file(t, "name n55")
	undefined := "name u/code 0/ecall/end/data 256 256 3 -/use func nowhere outer/slot 256 nowhere"
	for i, x := range []struct {
		l    [][]byte
		root string
		args []string
		e    api.Errno
	}{
		{good, "prog", nil, api.OK}, {good, "a", nil, api.OK}, {[][]byte{{1, 2, 3}}, "a", nil, api.ErrMagic}, {append(slices.Clone(good), short...), "a", nil, api.ErrShort}, {append([][]byte{append(slices.Clone(good[0]), 1)}, short...), "nowhere", nil, api.ErrTail},
		{append(slices.Clone(short), []byte{}), "a", nil, api.ErrShort}, {nil, "a", nil, api.ErrMissing}, {good, "b", nil, api.ErrMissing}, {good, "", nil, api.ErrMissing}, {with(good, none), "none", nil, api.ErrMissing}, {good, "lib", nil, api.ErrUndefined}, {good, "deep", long, api.ErrUndefined},
		{with(nil, undefined+"/def func main 0 4 outer all"), "u", long, api.ErrUndefined},
		{with(good, "name v/needs lib/code 0/ecall/end/data 256 256 3 -/def func main 0 4 outer all/use func f outer v2/slot 256 f"), "v", long, api.ErrVersion}, {with(nil, undefined), "u", nil, api.ErrUndefined},
		{with(bigs, needs(4)), "huge", long, api.ErrAddress}, {with(bigs, needs(3)), "huge", nil, api.OK}, {chain, "n0", long, api.ErrTypes}, {fewer, "n0", nil, api.OK}, {fewer, "n0", long, api.ErrArg},
		{good, "a", long, api.ErrArg}, {good, "a", []string{"a\x00"}, api.ErrArg}, {good, "a", slices.Repeat([]string{"x"}, 9), api.ErrArg}, {good, "a", slices.Repeat([]string{"x"}, 8), api.OK},
	} {
		g, e := Load(x.l, x.root, x.args, nil)
		if e != x.e || e != api.OK && !reflect.DeepEqual(g, Image{}) {
			t.Errorf("%d: %d, not %d", i, e, x.e)
		}
	}
	if _, e := Load(good, "a", nil, long); e != api.ErrArg {
		t.Error(e)
	}
	full := slices.Repeat([]string{strings.Repeat("x", 200)}, 8)
	if _, e := Load(good, "a", full, full); e != api.OK {
		t.Error(e)
	}
}

func TestT2FirstOfAName(t *testing.T) {
	x := loaded(t, files(t, bare, strings.Replace(bare, "ecall", "ebreak", 1)), "a", nil, nil)
	if run.Go(x.Machine, 5, nil).Why != api.ErrCall || !slices.Equal(x.Order, []int{0}) || !slices.Equal(x.Types, []int{8, 0}) {
		t.Error(x.Order)
	}
}

func TestT2NothingIsShared(t *testing.T) {
	l, args := files(t, deep, lib, prog), []string{"prog"}
	x, y := loaded(t, l, "prog", args, args), loaded(t, l, "prog", args, args)
	for _, b := range l {
		clear(b)
	}
	x.Objects[2].Segments[0].Bytes[0] = 99
	x.Machine.Mem.Put(4096, []byte{99})
	if !reflect.DeepEqual(y.Objects[2].Segments[0].Bytes, []byte{1, 2}) || y.Machine.Mem.Bytes(4096, 1)[0] != 1 || args[0] != "prog" {
		t.Error("something is")
	}
}

func TestT3Authority(t *testing.T) {
	x := loaded(t, files(t, bare, deep, lib, prog), "prog", nil, nil)
	code, own := table.Entry(x.Objects[2], x.Bases[2], 0, x.Types[2])
	for obj, want := range map[int][]api.Cap{
		3: {part(4096, 4196, 4096, 9), part(4352, 4364, 4352, 13), part(4608, 4864, 4608, 27), code, own, part(5121, 5123, 5121, 27)},
		2: {part(4864, 4872, 4864, 13), part(5120, 5184, 5120, 27), part(5384, 5392, 5384, 9)}, 1: {part(5376, 5392, 5376, 9)}, 0: nil, 4: nil, -1: nil,
	} {
		if g := Authority(x, obj); !slices.Equal(g, want) {
			t.Errorf("%d: %+v", obj, g)
		}
	}
	if g := Authority(loaded(t, files(t, bare), "a", nil, nil), 0); !slices.Equal(g, []api.Cap{part(4096, 4100, 4096, 13)}) {
		t.Errorf("%+v", g)
	}
	if Authority(Image{Order: []int{0}}, 0) != nil {
		t.Error("of nothing")
	}
}

func TestT4NothingMoreThanItsAuthority(t *testing.T) {
	x := loaded(t, files(t, bare, deep, lib, prog), "prog", []string{"a", "b"}, []string{"c"})
	begin := []api.Cap{x.Start.Stack, x.Start.Argv, x.Start.Envp, x.Start.Auxv, image.Part(x.Objects[3], x.Bases[3], 1)}
	for _, i := range x.Order {
		begin = append(begin, Authority(x, i)...)
	}
	within := func(c api.Cap) bool {
		inRegion := c.Base >= 49152 && c.Top <= 53248
		return inRegion || c.Base >= 4096 && c.Top <= 5632
	}
	for _, c := range reach.Of(x.Machine) {
		if c.Perms&(api.MaySeal|api.MayUnseal) != 0 || c.Perms&api.MayStore != 0 && c.Perms&api.MayRun != 0 || !within(c) {
			t.Errorf("%+v", c)
		}
		inRegion := c.Base >= 49152 && c.Top <= 53248
		plain := c
		plain.Perms &^= api.MayInvoke
		opened := plain
		opened.Type = -1
		if !inRegion && !reach.Over(begin, c) && !reach.Over(begin, plain) && !reach.Over(begin, opened) {
			t.Errorf("%+v is not of %+v", c, begin)
		}
	}
}
