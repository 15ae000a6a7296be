package whole

import (
	"math/rand"
	"slices"
	"strconv"
	"strings"
	"testing"

	"curtilage/api"
	"curtilage/build"
	"curtilage/cap"
	"curtilage/celf"
	"curtilage/cpu"
	"curtilage/dl"
	"curtilage/graph"
	"curtilage/isa"
	"curtilage/lab"
	"curtilage/layout"
	"curtilage/load"
	"curtilage/lookup"
	"curtilage/reach"
	"curtilage/run"
	"curtilage/sweep"
	"curtilage/system"
	"curtilage/table"
)

// file is the bytes of an object that is written as lines, a `/` between.
func file(t *testing.T, text string) []byte {
	t.Helper()
	o, line, e := build.Source(strings.ReplaceAll(text, "/", "\n"))
	if e != api.OK {
		t.Fatalf("%q: line %d, %d", text, line, e)
	}
	b, e := build.Make(o)
	if e != api.OK {
		t.Fatal(e)
	}
	return b
}

func files(t *testing.T, texts ...string) [][]byte {
	t.Helper()
	var l [][]byte
	for _, text := range texts {
		l = append(l, file(t, text))
	}
	return l
}

// program is one whose code begins at 4096, with 64 bytes of data.
func program(code string) string {
	return "name prog/code 0/" + code + "/end/def func main 0 4 outer all/data 1024 64 3 -"
}

func begun(t *testing.T, texts ...string) *system.System {
	t.Helper()
	s, e := system.New(files(t, texts...), "prog", nil, nil)
	if e != api.OK {
		t.Fatal(e)
	}
	return s
}

func TestT1AProgramReckons(t *testing.T) {
	// The sum of 1 to 60, kept in memory at each turn, and its square, with a quotient and a rest.
	s := begun(t, program("addi c5, c0, 60/x:/ld c6, 0(c31)/add c6, c6, c5/sd c6, 0(c31)/addi c5, c5, -1/bne c5, c0, x/mul c7, c6, c6/addi c8, c0, 7/div c9, c7, c8/rem c10, c7, c8/sw c9, 8(c31)/lh c11, 8(c31)/ebreak"))
	if stop := s.Run(10000); stop != (run.Stop{Why: api.ErrBreak, Steps: 1 + 60*5 + 6}) {
		t.Fatal(stop, s.Machine.Text())
	}
	for n, want := range map[int]uint64{6: 1830, 7: 1830 * 1830, 9: 1830 * 1830 / 7, 10: 1830 * 1830 % 7, 11: uint64(int64(int16(1830 * 1830 / 7 & 0xffff)))} {
		if s.Machine.Regs[n] != cap.Int(want) {
			t.Errorf("c%d: %+v, not %d", n, s.Machine.Regs[n], want)
		}
	}
	if w, e := s.Machine.Mem.Load(5120, 8); w != 1830 || e != api.OK {
		t.Error(w, e)
	}
}

// anyCode is instructions by chance, as numbers, most of which do something with capabilities.
func anyCode(r *rand.Rand, many int) []byte {
	ops := []string{"clc", "clc", "csc", "csc", "ld", "sd", "lb", "sb", "csetbounds", "candperm", "cseal", "cunseal", "csetaddr", "cincaddr", "cinvoke", "cinvoke", "cmove", "addi", "auipcc", "cjalr", "cgetaddr", "cgetbase", "ccleartag", "cjal"}
	regs := []int{0, 1, 2, 3, 5, 10, 11, 12, 13, 31, 31}
	pick := func() int { return regs[r.Intn(len(regs))] }
	var code []byte
	for range many {
		x := api.Inst{Op: isa.Find(ops[r.Intn(len(ops))])}
		switch isa.Kind(x.Op) {
		case api.KindR:
			x.Rd, x.Rs1, x.Rs2 = pick(), pick(), pick()
		case api.KindI, api.KindLoad:
			x.Rd, x.Rs1, x.Imm = pick(), pick(), int64(r.Intn(12)-4)*32
		case api.KindSave:
			x.Rs1, x.Rs2, x.Imm = pick(), pick(), int64(r.Intn(12)-4)*32
		case api.KindOne:
			x.Rd, x.Rs1 = pick(), pick()
		case api.KindTwo:
			x.Rs1, x.Rs2 = pick(), pick()
		case api.KindHigh:
			x.Rd = pick()
		case api.KindJump:
			x.Rd, x.Imm = pick(), int64(r.Intn(8))*4
		}
		w, e := isa.Encode(x)
		if e != api.OK {
			panic(e)
		}
		code = append(code, byte(w), byte(w>>8), byte(w>>16), byte(w>>24))
	}
	return code
}

// wild is an object with any code, that uses what the others define.
func wild(r *rand.Rand, name string, others ...string) api.Object {
	o := api.Object{Name: name, Segments: []api.Segment{
		{At: 0, Size: 160, Flags: api.FlagRead | api.FlagRun, Bytes: anyCode(r, 40)}, {At: 256, Size: 512, Flags: api.FlagRead | api.FlagWrite}, {At: 768, Size: 64, Flags: api.FlagRead, Bytes: []byte(name)},
	}}
	define := func(name string, kind int, at, size uint64) {
		o.Symbols = append(o.Symbols, api.Symbol{Name: name, Kind: kind, At: at, Size: size, Bind: api.BindOuter, Seen: api.SeenAll, Defined: true})
	}
	define("main", api.SymFunc, uint64(r.Intn(20))*4, 4)
	define("f"+name, api.SymFunc, uint64(r.Intn(40))*4, 4)
	define("d"+name, api.SymData, 256+uint64(r.Intn(400)), uint64(r.Intn(100)))
	define("r"+name, api.SymData, 768, 64)
	for i, other := range others {
		o.Needed = append(o.Needed, other)
		for j, prefix := range []string{"f", "d", "r"} {
			o.Symbols = append(o.Symbols, api.Symbol{Name: prefix + other, Kind: []int{api.SymFunc, api.SymData, api.SymData}[j], Bind: api.BindOuter, Seen: api.SeenAll})
			o.Relocs = append(o.Relocs, api.Reloc{At: 256 + uint64(i)*128 + []uint64{0, 64, 96}[j], Sym: len(o.Symbols) - 1})
		}
	}
	return o
}

// wildFiles are a program and two libraries, with any code.
func wildFiles(t *testing.T, r *rand.Rand) [][]byte {
	t.Helper()
	var l [][]byte
	for _, o := range []api.Object{wild(r, "prog", "one", "two"), wild(r, "one", "two"), wild(r, "two", "one"), wild(r, "none")} {
		b, e := build.Make(o)
		if e != api.OK {
			t.Fatal(e)
		}
		l = append(l, b)
	}
	return l
}

// wander lets a machine do as many steps, past all that stops it.
func wander(m *cpu.Machine, steps int) (done int) {
	for range steps {
		if m.Step() == api.OK {
			done++
		} else {
			m.PC = cap.Move(m.PC, m.PC.At+4)
		}
	}
	return done
}

func TestT2Confinement(t *testing.T) {
	r := rand.New(rand.NewSource(27))
	done := 0
	for range 400 {
		x, e := load.Load(wildFiles(t, r), "prog", []string{"prog", "arg"}, []string{"A=1"})
		if e != api.OK {
			t.Fatal(e)
		}
		first, m := reach.Of(x.Machine), x.Machine
		start := []api.Cap{x.Start.Stack, x.Start.Argv, x.Start.Envp, x.Start.Auxv}
		for _, c := range m.Regs {
			if c.Tag && !slices.Contains(start, c) && !reach.Over(load.Authority(x, 0), c) {
				t.Fatalf("begins with %+v", c)
			}
		}
		for _, c := range first {
			if c.Perms&(api.MaySeal|api.MayUnseal) != 0 || c.Perms&api.MayStore != 0 && c.Perms&api.MayRun != 0 {
				t.Fatalf("begins with %+v", c)
			}
		}
		stood := m.Caps()
		kept, before := reach.Keeps(first, m.Mem), ""
		all := func() string {
			text := ""
			for _, at := range kept {
				c, _ := m.Mem.LoadCap(at)
				text += string(m.Mem.Bytes(at, 32)) + cap.Text(c)
			}
			return text
		}
		before = all()
		done += wander(m, 300)
		for i, c := range m.Caps() {
			if !reach.Over(first, c) && !slices.Contains(stood, c) {
				t.Fatalf("%d: %+v is not over %+v", i, c, first)
			}
		}
		if all() != before || len(m.Mem.Pages()) == 0 {
			t.Fatal("what could not be stored to changed")
		}
	}
	if done < 10000 {
		t.Error("hardly a step was done", done)
	}
}

func TestT3OfAnyBytes(t *testing.T) {
	r := rand.New(rand.NewSource(28))
	fixed := []api.Errno{api.OK, api.ErrMagic, api.ErrShort, api.ErrTail, api.ErrName, api.ErrMany, api.ErrSegment, api.ErrSymbol, api.ErrReloc, api.ErrList, api.ErrMissing, api.ErrUndefined, api.ErrVersion, api.ErrAddress, api.ErrTypes, api.ErrRoom, api.ErrArg, api.ErrBudget}
	seen := map[api.Errno]int{}
	for range 4000 {
		l := wildFiles(t, r)
		for range r.Intn(4) {
			b := l[r.Intn(3)]
			b[r.Intn(len(b))] = byte(r.Intn(256))
		}
		if r.Intn(9) == 0 {
			l[1] = l[1][:r.Intn(len(l[1]))]
		}
		x, e := load.Load(l, "prog", nil, nil)
		seen[e]++
		if !slices.Contains(fixed, e) || (e == api.OK) != (x.Machine != nil) {
			t.Fatal(e)
		}
		if e != api.OK {
			continue
		}
		for _, link := range x.Links {
			slots(t, x, link)
		}
	}
	if seen[api.OK] == 0 || len(seen) < 5 {
		t.Error(seen)
	}
}

// slots holds what stands in a link's slot against the definition that the lookup chooses.
func slots(t *testing.T, x load.Image, link api.Link) {
	t.Helper()
	o := x.Objects[link.Obj]
	r := o.Relocs[link.Reloc]
	to, sym, e := lookup.Bind(x.Objects, x.Order, link.Obj, r.Sym)
	if e != api.OK || to != link.To || sym != link.Sym {
		t.Fatal(link, to, sym, e)
	}
	first, e := x.Machine.Mem.LoadCap(x.Bases[link.Obj] + r.At)
	if e != api.OK {
		t.Fatal(e)
	}
	if to < 0 {
		if first != cap.Null() {
			t.Fatalf("%+v", first)
		}
		return
	}
	s := x.Objects[to].Symbols[sym]
	if s.Kind == api.SymFunc {
		code, _ := table.Entry(x.Objects[to], x.Bases[to], sym, x.Types[to])
		if first != code || first.Type != x.Types[to] || first.At != x.Bases[to]+s.At {
			t.Fatalf("%+v", first)
		}
	} else if first.Base != x.Bases[to]+s.At || first.Top != first.Base+s.Size || first.Type != -1 {
		t.Fatalf("%+v", first)
	}
}

func TestT4OpeningAndClosing(t *testing.T) {
	r := rand.New(rand.NewSource(29))
	for range 80 {
		var texts []string
		for i := range 7 {
			text := "name n" + strconv.Itoa(i)
			if i == 0 {
				text = "name prog/code 0/ecall/end/def func main 0 4 outer all"
			}
			for j := i + 1; j < 7; j++ {
				if r.Intn(4) == 0 {
					text += "/needs n" + strconv.Itoa(j)
				}
			}
			texts = append(texts, text+"/data 256 300 3 -")
		}
		s := begun(t, texts...)
		for range 40 {
			loaded, bases, types := slices.Clone(s.State.Loaded), slices.Clone(s.Bases), slices.Clone(s.Types)
			name := "n" + strconv.Itoa(r.Intn(8))
			var began, ended []int
			if r.Intn(2) == 0 {
				began, _ = s.Open(name)
			} else {
				ended, _ = s.Close(name)
			}
			var needed []int
			for _, o := range s.State.Open {
				needed = append(needed, graph.Reach(s.Objects, o)...)
			}
			slices.Sort(needed)
			now := slices.Clone(s.State.Loaded)
			slices.Sort(now)
			if !slices.Equal(now, slices.Compact(needed)) {
				t.Fatal("what is loaded is not what is needed", s.State)
			}
			for i, o := range s.State.Loaded {
				for _, n := range graph.Reach(s.Objects, o) {
					if n != o && slices.Index(s.State.Loaded, n) > i {
						t.Fatal("begun ahead of what it needs", s.State)
					}
				}
			}
			if !slices.Equal(s.State.Loaded[len(s.State.Loaded)-len(began):], began) {
				t.Fatal(s.State, began)
			}
			for i := 1; i < len(ended); i++ {
				if slices.Index(loaded, ended[i-1]) < slices.Index(loaded, ended[i]) {
					t.Fatal("not from behind", loaded, ended)
				}
			}
			var places []layout.Place
			for _, i := range s.State.Loaded {
				places = append(places, layout.Place{Base: s.Bases[i], Size: layout.Size(s.Objects[i])})
			}
			if !layout.Apart(places) {
				t.Fatal(places)
			}
			for _, i := range ended {
				if l := sweep.Left(s.Machine, bases[i], layout.Size(s.Objects[i]), types[i]); len(l) != 0 {
					t.Fatal("something reaches what ended", l)
				}
			}
		}
	}
}

func TestTenExamples(t *testing.T) {
	r := cap.Bound(cap.Move(cap.Root(100), 10), 5)
	if cap.Check(cap.Move(r, 100), 1, api.MayLoad) != api.ErrBound || cap.Check(cap.Move(cap.Move(r, 100), 10), 5, api.MayLoad) != api.OK {
		t.Error(1)
	}
	s := begun(t, program("csc c31, 0(c31)/addi c1, c0, 7/sb c1, 9(c31)/ebreak"))
	s.Run(1)
	had := s.Machine.Mem.Tags()
	s.Run(9)
	if !slices.Contains(had, 5120) || slices.Contains(s.Machine.Mem.Tags(), 5120) {
		t.Error(2, had)
	}
	if cap.Move(cap.Seal(r, cap.Root(64)), 11).Tag {
		t.Error(3)
	}
	if begun(t, program("ld c1, 0(c0)")).Run(9).Why != api.ErrTag {
		t.Error(4)
	}
	s = begun(t, program("addi c5, c0, 60/x:/addi c5, c5, -1/bne c5, c0, x/ebreak"))
	if s.Run(10) != (run.Stop{Why: api.ErrFuel, Steps: 10}) || s.Run(1000) != (run.Stop{Why: api.ErrBreak, Steps: 111}) {
		t.Error(5)
	}
	b := file(t, program("ecall"))
	if _, e := celf.Parse(b[:len(b)-1]); e != api.ErrShort {
		t.Error(6, e)
	}
	x, e := load.Load(files(t, "name prog/needs a/needs b/code 0/ecall/end/data 256 64 3 -/def func main 0 4 outer all/use func f outer/slot 256 f",
		"name b/code 0/ecall/end/def func f 0 4 outer all", "name a/code 0/ecall/end/def func f 0 4 outer all"), "prog", nil, nil)
	if e != api.OK || x.Links[0].To != 2 {
		t.Error(7, x.Links, e)
	}
	code, _ := x.Machine.Mem.LoadCap(4096 + 256)
	data, _ := x.Machine.Mem.LoadCap(4096 + 288)
	if code.Type != x.Types[2] || data.Type != x.Types[2] || !code.Tag || !data.Tag {
		t.Error(8, code, data)
	}
	s = begun(t, program("ecall"), "name lib/data 0 32 3 -")
	s.Open("lib")
	s.Open("lib")
	if end, e := s.Close("lib"); len(end) != 0 || e != api.OK || dl.Count(s.State, 1) != 1 {
		t.Error(9, end, e)
	}
	lib := api.Cap{Base: s.Bases[1], Top: s.Bases[1] + 32, At: 5, Perms: 9, Type: -1, Tag: true}
	s.Machine.Regs[7] = lib
	s.Machine.Mem.StoreCap(5120, lib)
	s.Close("lib")
	c, _ := s.Machine.Mem.LoadCap(5120)
	if s.Machine.Regs[7] != cap.Clear(lib) || c != cap.Clear(lib) {
		t.Error(10, s.Machine.Text(), c)
	}
}

func TestR4NilAndEmptyAreTheSame(t *testing.T) {
	a := api.Object{Name: "a"}
	b := api.Object{Name: "a", Needed: []string{}, Segments: []api.Segment{}, Symbols: []api.Symbol{}, Relocs: []api.Reloc{}, Init: []int{}, Fini: []int{}}
	x, e1 := build.Make(a)
	y, e2 := build.Make(b)
	if !slices.Equal(x, y) || e1 != api.OK || e2 != api.OK || layout.Size(a) != layout.Size(b) || load.Main(a) != load.Main(b) {
		t.Error(x, y)
	}
}

func TestR6TheSameAgain(t *testing.T) {
	r := rand.New(rand.NewSource(30))
	for range 20 {
		l := wildFiles(t, r)
		first := ""
		for i := range 3 {
			s, e := system.New(l, "prog", []string{"x"}, nil)
			if e != api.OK {
				t.Fatal(e)
			}
			s.Open("none")
			stop := s.Run(200)
			text := strconv.Itoa(int(stop.Why)) + " " + strconv.Itoa(stop.Steps) + s.Machine.Text()
			for _, c := range reach.Of(s.Machine) {
				text += cap.Text(c)
			}
			if i == 0 {
				first = text
			} else if text != first {
				t.Fatal(first, text)
			}
		}
	}
}

func TestReadmeScript(t *testing.T) {
	transcript, line, e := lab.Run("file\n>name a\n>code 0\n>ecall\n>end\n>def func main 0 4 outer all\nload a\nrun 9\n")
	if transcript != "ok\nstop 60 0\n" || line != 0 || e != api.OK {
		t.Error(transcript, line, e)
	}
}
