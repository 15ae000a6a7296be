package system

import (
	"math"
	"math/rand"
	"reflect"
	"slices"
	"strconv"
	"strings"
	"testing"

	"curtilage/api"
	"curtilage/build"
	"curtilage/cap"
	"curtilage/dl"
	"curtilage/layout"
	"curtilage/reach"
	"curtilage/run"
	"curtilage/sweep"
	"curtilage/table"
)

// files are objects that are written as lines, a `/` between.
func files(t *testing.T, texts ...string) [][]byte {
	t.Helper()
	var l [][]byte
	for _, text := range texts {
		o, line, e := build.Source(strings.ReplaceAll(text, "/", "\n"))
		if e != api.OK {
			t.Fatalf("%q: line %d, %d", text, line, e)
		}
		b, e := build.Make(o)
		if e != api.OK {
			t.Fatal(e)
		}
		l = append(l, b)
	}
	return l
}

// Objects of most tests, by their places.
const (
	base = 1
	plug = 2
	deep = 3
)

// texts are a program with some code, and libraries that it may open.
func texts(code string) []string {
	return []string{
		"name prog/needs base/code 0/" + code + "/end/data 2048 512 3 -/def func main 0 4 outer all/use func b outer/slot 2048 b",
		"name base/code 0/ecall/end/data 256 64 3 -/def func b 0 4 outer all/def var shared 256 64 outer all",
		"name plug/needs deep/code 0/ecall/ecall/end/data 256 256 3 07/def func f 4 4 outer all/def var d 300 8 outer all v1/def var own 256 1 local own/use func g outer/use var shared outer/slot 256 g/slot 320 shared",
		"name deep/code 0/ecall/end/def func g 0 4 weak all/def var n 256 0 outer all/data 256 1 1 -",
		"name bad/needs deep/data 0 256 3 -/use func nowhere outer/slot 0 nowhere",
		"name old/needs plug/data 0 256 3 -/use var d outer v2/slot 0 d",
		"name lost/needs nothing",
		"name empty",
	}
}

func made(t *testing.T, code string, more ...string) *System {
	t.Helper()
	s, e := New(files(t, append(texts(code), more...)...), "prog", []string{"prog"}, nil)
	if e != api.OK {
		t.Fatal(e)
	}
	return s
}

// all is everything that a system is.
type all struct {
	Bases     []uint64
	Types     []int
	State     dl.State
	text      string
	pages     []uint64
	bytes     string
	tags      []uint64
	memoryCap string
}

func (s *System) all() all {
	x := all{Bases: slices.Clone(s.Bases), Types: slices.Clone(s.Types), text: s.Machine.Text(), pages: s.Machine.Mem.Pages(), tags: s.Machine.Mem.Tags()}
	x.State = dl.State{Loaded: slices.Clone(s.State.Loaded), Open: slices.Clone(s.State.Open)}
	for _, p := range x.pages {
		x.bytes += string(s.Machine.Mem.Bytes(p*256, 256))
	}
	for _, c := range s.Machine.Caps() {
		x.memoryCap += cap.Text(c)
	}
	return x
}

func (s *System) opens(t *testing.T, name string, want ...int) {
	t.Helper()
	if begin, e := s.Open(name); !slices.Equal(begin, want) || e != api.OK {
		t.Fatalf("open %s: %v, %d", name, begin, e)
	}
}

func (s *System) closes(t *testing.T, name string, want ...int) {
	t.Helper()
	if end, e := s.Close(name); !slices.Equal(end, want) || e != api.OK {
		t.Fatalf("close %s: %v, %d", name, end, e)
	}
}

func TestW1New(t *testing.T) {
	s := made(t, "ecall")
	if len(s.Objects) != 8 || !slices.Equal(s.Bases, []uint64{4096, 6656, 0, 0, 0, 0, 0, 0}) || !slices.Equal(s.Types, []int{8, 9, 0, 0, 0, 0, 0, 0}) {
		t.Error(s.Bases, s.Types)
	}
	if !reflect.DeepEqual(s.State, dl.State{Loaded: []int{1, 0}, Open: []int{0}}) || s.Machine.PC.At != 4096 {
		t.Error(s.State, s.Machine.Text())
	}
	for i, x := range []struct {
		l    [][]byte
		root string
		e    api.Errno
	}{{files(t, texts("ecall")...), "nobody", api.ErrMissing}, {[][]byte{{1}}, "prog", api.ErrMagic}, {files(t, texts("ecall")...), "plug", api.ErrUndefined}} {
		if s, e := New(x.l, x.root, nil, nil); s != nil || e != x.e {
			t.Errorf("%d: %v, %d", i, s, e)
		}
	}
}

func TestW2Open(t *testing.T) {
	s := made(t, "ecall")
	s.opens(t, "plug", deep, plug)
	if !slices.Equal(s.Bases[:4], []uint64{4096, 6656, 7680, 7168}) || !slices.Equal(s.Types[:4], []int{8, 9, 11, 10}) || !reflect.DeepEqual(s.State, dl.State{Loaded: []int{1, 0, 3, 2}, Open: []int{0, 2}}) {
		t.Error(s.Bases, s.Types, s.State)
	}
	code, own := table.Entry(s.Objects[deep], 7168, 0, 10)
	shared := api.Cap{Base: 6912, Top: 6976, At: 6912, Perms: 27, Type: -1, Tag: true}
	for at, want := range map[uint64]api.Cap{7936: code, 7968: own, 8000: shared} {
		if c, e := s.Machine.Mem.LoadCap(at); c != want || e != api.OK {
			t.Errorf("%d: %+v", at, c)
		}
	}
	before := s.all()
	s.opens(t, "deep")
	s.opens(t, "plug")
	s.opens(t, "prog")
	before.State.Open = []int{0, 2, 3, 2, 0}
	if !reflect.DeepEqual(s.all(), before) {
		t.Error(s.State)
	}
	s.opens(t, "empty", 7)
	if s.Bases[7] != 4096 || s.Types[7] != 12 {
		t.Error("what takes no bytes lies at the first page", s.Bases, s.Types)
	}
}

func TestW2FreedPlacesAreGivenAgain(t *testing.T) {
	s := made(t, "ecall", "name small/data 0 1 1 -", "name wide/data 0 1 1 -/data 1024 1 1 -")
	s.opens(t, "deep", deep)
	s.opens(t, "small", 8)
	s.closes(t, "deep", deep)
	s.opens(t, "wide", 9)
	if s.Bases[8] != 7680 || s.Types[8] != 11 || s.Bases[9] != 7936 || s.Types[9] != 10 || s.Bases[deep] != 0 || s.Types[deep] != 0 {
		t.Error(s.Bases, s.Types)
	}
	s.opens(t, "deep", deep)
	if s.Bases[deep] != 7168 || s.Types[deep] != 12 {
		t.Error(s.Bases, s.Types)
	}
}

func TestW2Errors(t *testing.T) {
	s := made(t, "ecall")
	for _, x := range []struct {
		name string
		e    api.Errno
	}{{"nobody", api.ErrMissing}, {"", api.ErrMissing}, {"lost", api.ErrMissing}, {"bad", api.ErrUndefined}, {"old", api.ErrVersion}} {
		before := s.all()
		if begin, e := s.Open(x.name); begin != nil || e != x.e || !reflect.DeepEqual(s.all(), before) {
			t.Errorf("%s: %v, %d", x.name, begin, e)
		}
	}
}

func TestW2NoRoom(t *testing.T) {
	const big = "name big%/data 0 2048 3 -/data 2048 2048 3 -/data 4096 2048 3 -/data 6144 2048 3 -/data 8192 2048 3 -/data 10240 2048 3 -"
	var more []string
	for i := range 4 {
		more = append(more, strings.Replace(big, "%", strconv.Itoa(i), 1))
	}
	more = append(more, "name both/needs big3/needs bad", "name exact/data 0 2048 3 -/data 2048 2048 3 -/data 4096 1024 3 -")
	s := made(t, "ecall", more...)
	for i := range 3 {
		s.opens(t, "big"+strconv.Itoa(i), 8+i)
	}
	before := s.all()
	for _, name := range []string{"big3", "both"} {
		if begin, e := s.Open(name); begin != nil || e != api.ErrAddress || !reflect.DeepEqual(s.all(), before) {
			t.Error(name, begin, e)
		}
	}
	s.opens(t, "exact", 13)
	if s.Bases[13]+5120 != 49152 {
		t.Error(s.Bases)
	}
	before = s.all()
	if begin, e := s.Open("deep"); begin != nil || e != api.ErrAddress || !reflect.DeepEqual(s.all(), before) {
		t.Error(begin, e)
	}
	s.closes(t, "big1", 9)
	s.opens(t, "big3", 11)
	if s.Bases[11] != 7168+12288 {
		t.Error(s.Bases)
	}
}

func TestW2NoTypes(t *testing.T) {
	var more []string
	for i := range 56 {
		more = append(more, "name n"+strconv.Itoa(i))
	}
	s := made(t, "ecall", more...)
	for i := range 54 {
		s.opens(t, "n"+strconv.Itoa(i), 8+i)
	}
	before := s.all()
	for _, name := range []string{"n54", "bad"} {
		if begin, e := s.Open(name); begin != nil || e != api.ErrTypes || !reflect.DeepEqual(s.all(), before) {
			t.Error(name, begin, e)
		}
	}
	s.closes(t, "n7", 15)
	s.opens(t, "n55", 8+55)
	if s.Types[8+55] != 17 {
		t.Error(s.Types)
	}
}

func TestW3Close(t *testing.T) {
	s := made(t, "ecall")
	before := s.all()
	s.opens(t, "plug", deep, plug)
	s.opens(t, "plug")
	s.closes(t, "plug")
	if s.Bases[plug] == 0 || !slices.Equal(s.State.Open, []int{0, 2}) {
		t.Error(s.State)
	}
	s.closes(t, "plug", plug, deep)
	if !reflect.DeepEqual(s.all(), before) {
		t.Error("something stayed")
	}
	for _, name := range []string{"plug", "prog", "base", "nobody", ""} {
		if end, e := s.Close(name); end != nil || e != api.ErrHandle || !reflect.DeepEqual(s.all(), before) {
			t.Error(name, end, e)
		}
	}
	s.opens(t, "deep", deep)
	s.opens(t, "plug", plug)
	s.closes(t, "plug", plug)
	if s.Bases[deep] == 0 || s.Bases[plug] != 0 || s.Types[plug] != 0 {
		t.Error(s.Bases)
	}
}

func TestW3WhatReachedItReachesNothing(t *testing.T) {
	s := made(t, "ecall")
	s.opens(t, "plug", deep, plug)
	f, e := s.Symbol("plug", "f")
	if e != api.OK {
		t.Fatal(e)
	}
	d, _ := s.Symbol("plug", "d")
	m := s.Machine
	m.Regs[5], m.Regs[6], m.Regs[7] = f[0], f[1], d[0]
	m.Mem.StoreCap(6656+256, f[0])
	m.Mem.StoreCap(6656+288, d[0])
	m.PC = cap.Unseal(f[0], cap.Move(cap.Root(64), uint64(s.Types[plug])))
	from, size, typ := s.Bases[plug], layout.Size(s.Objects[plug]), s.Types[plug]
	s.closes(t, "plug", plug, deep)
	for i, c := range []api.Cap{m.PC, m.Regs[5], m.Regs[6], m.Regs[7]} {
		if c.Tag || c.Top == 0 {
			t.Errorf("%d: %+v", i, c)
		}
	}
	if l := sweep.Left(m, from, size, typ); len(l) != 0 || len(m.Mem.Bytes(from, 1)) != 0 || s.Run(9) != (run.Stop{Why: api.ErrTag}) {
		t.Error(l)
	}
}

func TestW4Symbol(t *testing.T) {
	s := made(t, "ecall")
	code, own := table.Entry(s.Objects[base], 6656, 0, 9)
	mainCode, mainOwn := table.Entry(s.Objects[0], 4096, 0, 8)
	shared := table.Data(s.Objects[base], 6656, 1)
	for i, x := range []struct {
		name, symbol string
		want         []api.Cap
		e            api.Errno
	}{
		{"base", "b", []api.Cap{code, own}, api.OK}, {"prog", "b", []api.Cap{code, own}, api.OK}, {"prog", "main", []api.Cap{mainCode, mainOwn}, api.OK}, {"base", "main", nil, api.ErrUndefined}, {"prog", "shared", []api.Cap{shared}, api.OK},
		{"plug", "f", nil, api.ErrHandle}, {"nobody", "b", nil, api.ErrHandle}, {"prog", "nothing", nil, api.ErrUndefined}, {"base", "", nil, api.ErrUndefined}, {"", "b", nil, api.ErrHandle},
	} {
		if g, e := s.Symbol(x.name, x.symbol); !slices.Equal(g, x.want) || e != x.e {
			t.Errorf("%d: %+v, %d", i, g, e)
		}
	}
	s.opens(t, "plug", deep, plug)
	if g, e := s.Symbol("plug", "d"); e != api.OK || !slices.Equal(g, []api.Cap{table.Data(s.Objects[plug], s.Bases[plug], 1)}) {
		t.Error("of any version", g, e)
	}
	if g, e := s.Symbol("plug", "g"); e != api.OK || len(g) != 2 || g[0].Type != s.Types[deep] {
		t.Error("of what it needs", g, e)
	}
	if g, e := s.Symbol("plug", "own"); g != nil || e != api.ErrUndefined {
		t.Error("of its own", g, e)
	}
	if g, e := s.Symbol("plug", "shared"); g != nil || e != api.ErrUndefined {
		t.Error("of what it does not need", g, e)
	}
}

// asks is code that asks a service, and stops behind it.
func asks(number, a, b int) string {
	return "addi c17, c0, " + strconv.Itoa(number) + "/addi c10, c0, " + strconv.Itoa(a) + "/addi c11, c0, " + strconv.Itoa(b) + "/ecall"
}

func TestW5Services(t *testing.T) {
	s := made(t, asks(1, plug, 77)+"/"+asks(3, plug, 0)+"/"+asks(3, plug, 1)+"/"+asks(2, plug, 5)+"/"+asks(2, plug, 5)+"/ebreak")
	regs := &s.Machine.Regs
	if stop := s.Run(4); stop != (run.Stop{Why: api.ErrFuel, Steps: 4}) || regs[10] != cap.Int(0) || regs[11] != cap.Int(77) || s.Machine.PC.At != 4112 || len(s.State.Loaded) != 4 {
		t.Error(stop, s.Machine.Text(), s.State)
	}
	code, own := table.Entry(s.Objects[plug], s.Bases[plug], 0, s.Types[plug])
	if stop := s.Run(4); stop.Steps != 4 || regs[10] != code || regs[11] != own {
		t.Error(stop, s.Machine.Text())
	}
	if stop := s.Run(4); stop.Steps != 4 || regs[10] != table.Data(s.Objects[plug], s.Bases[plug], 1) || regs[11] != cap.Null() {
		t.Error(stop, s.Machine.Text())
	}
	if stop := s.Run(4); stop.Steps != 4 || regs[10] != cap.Int(0) || regs[11] != cap.Int(5) || len(s.State.Loaded) != 2 {
		t.Error(stop, s.Machine.Text())
	}
	if stop := s.Run(99); stop != (run.Stop{Why: api.ErrBreak, Steps: 4}) || regs[10] != cap.Int(210) || regs[11] != cap.Int(5) {
		t.Error(stop, s.Machine.Text())
	}
}

func TestW5ServicesThatFail(t *testing.T) {
	for i, x := range []struct {
		number, a, b int
		e            api.Errno
	}{
		{1, 4, 0, api.ErrUndefined}, {1, 5, 0, api.ErrVersion}, {1, 6, 0, api.ErrMissing}, {1, 8, 0, api.ErrArg}, {1, -1, 0, api.ErrArg}, {2, 0, 0, api.ErrHandle}, {2, 1, 0, api.ErrHandle}, {2, 8, 0, api.ErrArg},
		{3, 8, 0, api.ErrArg}, {3, 0, 2, api.ErrArg}, {3, 0, -1, api.ErrArg}, {3, plug, 0, api.ErrHandle}, {3, plug, 9, api.ErrArg}, {3, 7, 0, api.ErrArg},
	} {
		s := made(t, asks(x.number, x.a, x.b)+"/ebreak")
		s.Run(3)
		before := s.all()
		stop := s.Run(9)
		if stop != (run.Stop{Why: api.ErrBreak, Steps: 1}) || s.Machine.Regs[10] != cap.Int(uint64(x.e)) || s.Machine.Regs[11].At != uint64(x.b) || s.Machine.PC.At != 4112 {
			t.Errorf("%d: %v, %s", i, stop, s.Machine.Text())
		}
		after := s.all()
		after.text = before.text
		after.memoryCap = before.memoryCap
		if !reflect.DeepEqual(after, before) {
			t.Errorf("%d: something changed", i)
		}
	}
}

func TestW5OtherStops(t *testing.T) {
	for i, x := range []struct {
		code string
		fuel int
		want run.Stop
	}{
		{asks(0, 0, 0), 99, run.Stop{Why: api.ErrCall, Steps: 3}}, {asks(4, 0, 0), 99, run.Stop{Why: api.ErrCall, Steps: 3}}, {"ecall", 9, run.Stop{Why: api.ErrCall}}, {asks(1, base, 0) + "/ebreak", 4, run.Stop{Why: api.ErrFuel, Steps: 4}},
		{asks(1, base, 0) + "/ebreak", 3, run.Stop{Why: api.ErrFuel, Steps: 3}}, {asks(1, base, 0) + "/ebreak", 5, run.Stop{Why: api.ErrBreak, Steps: 4}}, {"x:/cjal c0, x", 1000, run.Stop{Why: api.ErrFuel, Steps: 1000}},
		{"ecall", 0, run.Stop{Why: api.ErrFuel}}, {"ecall", math.MinInt, run.Stop{Why: api.ErrFuel}}, {"addi c17, c0, 1/x:/ecall/addi c10, c0, 1/cjal c0, x", 301, run.Stop{Why: api.ErrFuel, Steps: 301}}, {"ld c1, 0(c0)", 9, run.Stop{Why: api.ErrTag}},
	} {
		s := made(t, x.code)
		if g := s.Run(x.fuel); g != x.want {
			t.Errorf("%d: %v, not %v", i, g, x.want)
		}
	}
}

func TestW5AProgramClosesWhatItRunsIn(t *testing.T) {
	const self = "name self/code 0/addi c17, c0, 2/addi c10, c0, 8/ecall/ecall/end/def func go 0 16 outer all"
	s := made(t, "addi c17, c0, 1/addi c10, c0, 8/ecall/addi c17, c0, 3/addi c10, c0, 8/addi c11, c0, 0/ecall/cinvoke c10, c11", self)
	stop := s.Run(99)
	if stop != (run.Stop{Why: api.ErrTag, Steps: 11}) || s.Machine.PC.Tag || s.Machine.PC.At != 7168+12 || s.Machine.Regs[10] != cap.Int(0) || len(s.State.Loaded) != 2 {
		t.Error(stop, s.Machine.Text())
	}
}

func TestNoSystem(t *testing.T) {
	for _, s := range []*System{nil, {}} {
		_, e1 := s.Open("a")
		_, e2 := s.Close("a")
		_, e3 := s.Symbol("a", "b")
		if e1 != api.ErrMissing || e2 != api.ErrHandle || e3 != api.ErrHandle || s.Run(5) != (run.Stop{Why: api.ErrTag}) {
			t.Error(e1, e2, e3)
		}
	}
}

func TestW6WhateverIsOpenedAndClosed(t *testing.T) {
	r := rand.New(rand.NewSource(24))
	names := []string{"prog", "base", "plug", "deep", "bad", "old", "lost", "empty", "nobody"}
	for range 60 {
		code := ""
		for range 8 {
			code += asks(1+r.Intn(3), r.Intn(9), r.Intn(4)) + "/csc c10, " + strconv.Itoa(32*r.Intn(4)+64) + "(c31)/"
		}
		s := made(t, code+"ebreak")
		for range 30 {
			before := s.all()
			bases, types := before.Bases, before.Types
			var end []int
			e := api.OK
			switch name := names[r.Intn(len(names))]; r.Intn(3) {
			case 0:
				_, e = s.Open(name)
			case 1:
				end, e = s.Close(name)
			case 2:
				s.Run(5)
			}
			if e != api.OK && !reflect.DeepEqual(s.all(), before) {
				t.Fatal("an error, and something changed")
			}
			for _, i := range end {
				size := layout.Size(s.Objects[i])
				for _, c := range s.Machine.Caps() {
					if sweep.Touches(c, bases[i], size, types[i]) {
						t.Fatal(c)
					}
				}
			}
			for _, c := range reach.Of(s.Machine) {
				if c.Perms&(api.MaySeal|api.MayUnseal) != 0 || c.Perms&api.MayStore != 0 && c.Perms&api.MayRun != 0 {
					t.Fatal(c)
				}
			}
			for i := range s.Objects {
				loaded := slices.Contains(s.State.Loaded, i)
				if loaded != (s.Types[i] != 0) || loaded != (s.Bases[i] != 0) {
					t.Fatal(s.State, s.Bases, s.Types)
				}
			}
		}
	}
}
