package whole

import (
	"math"
	"math/rand"
	"strings"
	"testing"

	"curtilage/abi"
	"curtilage/alu"
	"curtilage/api"
	"curtilage/asm"
	"curtilage/build"
	"curtilage/cap"
	"curtilage/celf"
	"curtilage/cpu"
	"curtilage/dl"
	"curtilage/graph"
	"curtilage/hash"
	"curtilage/image"
	"curtilage/isa"
	"curtilage/lab"
	"curtilage/layout"
	"curtilage/load"
	"curtilage/lookup"
	"curtilage/plan"
	"curtilage/reach"
	"curtilage/run"
	"curtilage/sweep"
	"curtilage/system"
	"curtilage/table"
	"curtilage/tagmem"
	"curtilage/word"
)

// chance makes anything, of which much is at the edges, or far beyond them.
type chance struct{ *rand.Rand }

func (c chance) int() int {
	switch c.Intn(4) {
	case 0:
		return []int{math.MinInt, math.MaxInt, -1, 1 << 32, -1 << 40, 65535, 65536, 256}[c.Intn(8)]
	case 1:
		return c.Intn(100) - 10
	}
	return c.Intn(5) - 1
}

func (c chance) word() uint64 {
	switch c.Intn(4) {
	case 0:
		return []uint64{math.MaxUint64, 1 << 63, math.MaxUint64 - 255, 1 << 24, 1<<24 - 1, 16384}[c.Intn(6)]
	case 1:
		return c.Uint64()
	}
	return uint64(c.Intn(40)) * 32
}

func (c chance) text() string {
	return []string{"", "a", "b", "main", "lib", "a b", "\x00", strings.Repeat("x", 300), "é\xff", "name a"}[c.Intn(10)]
}

func (c chance) texts() []string {
	var l []string
	for range c.Intn(4) {
		l = append(l, c.text())
	}
	return l
}

func (c chance) ints() []int {
	var l []int
	for range c.Intn(5) {
		l = append(l, c.int())
	}
	return l
}

func (c chance) cap() api.Cap {
	return api.Cap{Base: c.word(), Top: c.word(), At: c.word(), Perms: c.int(), Type: c.int(), Tag: c.Intn(3) > 0}
}

func (c chance) object() api.Object {
	o := api.Object{Name: c.text(), Needed: c.texts(), Init: c.ints(), Fini: c.ints()}
	for range c.Intn(4) {
		o.Segments = append(o.Segments, api.Segment{At: c.word(), Size: c.word(), Flags: c.int(), Bytes: []byte(c.text())})
	}
	for range c.Intn(5) {
		o.Symbols = append(o.Symbols, api.Symbol{Name: c.text(), Version: c.text(), At: c.word(), Size: c.word(), Kind: c.int(), Bind: c.int(), Seen: c.int(), Defined: c.Intn(2) == 0})
	}
	for range c.Intn(4) {
		o.Relocs = append(o.Relocs, api.Reloc{At: c.word(), Sym: c.int()})
	}
	return o
}

func (c chance) objects() []api.Object {
	var l []api.Object
	for range c.Intn(4) {
		l = append(l, c.object())
	}
	return l
}

func (c chance) link() api.Link {
	return api.Link{Obj: c.int(), Reloc: c.int(), To: c.int(), Sym: c.int()}
}

func (c chance) memory() *tagmem.Mem {
	if c.Intn(9) == 0 {
		return []*tagmem.Mem{nil, {}}[c.Intn(2)]
	}
	m, _ := tagmem.New(64)
	m.Map(uint64(c.Intn(3)), 1+c.Intn(6))
	for range 6 {
		m.StoreCap(uint64(c.Intn(60))*32, c.cap())
	}
	return m
}

func (c chance) machine() *cpu.Machine {
	if c.Intn(9) == 0 {
		return []*cpu.Machine{nil, {}}[c.Intn(2)]
	}
	m := cpu.New(c.memory(), c.cap())
	if c.Intn(2) == 0 {
		m.PC = cap.Root(4096)
	}
	for i := range m.Regs {
		m.Regs[i] = c.cap()
	}
	return m
}

// TestR1NothingPanics calls everything with anything: whatever it answers, it ends.
func TestR1NothingPanics(t *testing.T) {
	c := chance{rand.New(rand.NewSource(31))}
	for range 4000 {
		lower(c)
		machines(c)
		libraries(c)
		bound(c)
	}
	for range 100 {
		systems(c)
	}
}

func lower(c chance) {
	word.Bits(c.word(), c.int(), c.int())
	word.Sign(c.word(), c.int())
	word.Fits(int64(c.int()), c.int())
	word.High(c.word(), c.word(), true, false)
	word.Quotient(c.word(), c.word(), c.Intn(2) == 0)
	word.Rest(c.word(), c.word(), c.Intn(2) == 0)
	word.Of(word.Little(c.word(), c.int()))
	x, y := c.cap(), c.cap()
	for _, made := range []api.Cap{cap.Move(x, c.word()), cap.Bound(x, c.word()), cap.And(x, c.int()), cap.Seal(x, y), cap.Unseal(x, y)} {
		cap.Text(made)
		cap.Within(made, y)
		cap.Check(made, c.word(), c.int())
	}
	inst := api.Inst{Op: c.int(), Rd: c.int(), Rs1: c.int(), Rs2: c.int(), Imm: int64(c.int())}
	isa.Encode(inst)
	isa.Name(inst.Op)
	isa.Kind(inst.Op)
	isa.Find(c.text())
	isa.Decode(c.Uint32())
	asm.Print(inst)
	asm.Parse(c.text())
	asm.Program(c.text())
	asm.List([]byte(c.text()))
	alu.Reckon(c.int(), c.word(), c.word())
	alu.Holds(c.int(), c.word(), c.word())
	alu.Width(c.int())
}

func machines(c chance) {
	m := c.memory()
	m.Map(c.word(), c.int())
	m.Unmap(c.word(), c.int())
	m.Load(c.word(), c.int())
	m.Store(c.word(), c.int(), c.word())
	m.LoadCap(c.word())
	m.StoreCap(c.word(), c.cap())
	m.Put(c.word(), []byte(c.text()))
	m.Bytes(c.word(), c.int())
	m.Tags()
	tagmem.New(c.int())
	p := c.machine()
	p.Step()
	p.Caps()
	p.Text()
	run.Go(p, c.Intn(9)-2, c.ints())
	run.Until(p, c.Intn(9)-2, c.word())
	run.Trace(p, c.Intn(9)-2)
	l := reach.Of(p)
	reach.Over(l, c.cap())
	reach.May(l, c.word(), c.word(), c.int())
	reach.Keeps(append(l, c.cap()), c.memory())
	sweep.Touches(c.cap(), c.word(), c.word(), c.int())
	sweep.Sweep(p, c.word(), c.word(), c.int())
	sweep.Left(p, c.word(), c.word(), c.int())
}

func libraries(c chance) {
	o, l := c.object(), c.objects()
	celf.At(o, c.word(), c.word())
	celf.Check(o)
	celf.Parse([]byte("CELF\x01" + c.text()))
	build.Make(o)
	build.Source(c.text() + "\n" + c.text())
	hash.Of(c.text())
	hash.Make(o.Symbols, c.int())
	odd := hash.Table{Buckets: c.ints(), Chain: c.ints()}
	hash.Find(odd, o.Symbols, c.text(), c.text())
	hash.Valid(odd, o.Symbols)
	graph.Find(l, c.text())
	graph.Closure(l, c.text())
	graph.Begin(l, c.ints())
	graph.End(l, c.ints())
	graph.Reach(l, c.int())
	lookup.In(l, c.ints(), c.text(), c.text())
	lookup.Known(l, c.ints(), c.text())
	lookup.Bind(l, c.ints(), c.int(), c.int())
	lookup.All(l, c.ints())
	links, _, _ := plan.Link(l, c.ints(), c.ints())
	plan.Of(links, c.int())
	plan.Users(links, c.int())
	s := dl.State{Loaded: c.ints(), Open: c.ints()}
	dl.Begun(l, c.text())
	dl.Open(l, s, c.text())
	dl.Close(l, s, c.text())
	dl.Scope(l, s)
	dl.Count(s, c.int())
}

func bound(c chance) {
	o, l, m := c.object(), c.objects(), c.memory()
	places, _ := layout.Lay(l, c.ints(), c.word(), c.word())
	places = append(places, layout.Place{Base: c.word(), Size: c.word()}, layout.Place{Base: c.word(), Size: c.word()})
	layout.Size(o)
	layout.Owner(places, c.word())
	layout.Apart(places)
	image.Map(m, o, c.word())
	image.Unmap(m, o, c.word())
	image.Perms(c.int())
	image.Part(o, c.word(), c.int())
	image.Own(o, c.word())
	bases, types, link := []uint64{c.word(), c.word()}, c.ints(), c.link()
	table.Types(c.int(), c.int())
	table.Data(o, c.word(), c.int())
	table.Entry(o, c.word(), c.int(), c.int())
	table.Slot(l, bases, types, link)
	table.Fill(m, l, bases, types, []api.Link{link})
	aux := []api.Cap{c.cap()}
	abi.Need(c.texts(), c.texts(), aux)
	abi.Build(m, c.word(), c.int(), c.texts(), c.texts(), aux)
	load.Load([][]byte{[]byte(c.text())}, c.text(), c.texts(), c.texts())
	load.Main(o)
	load.Authority(load.Image{Objects: l, Order: c.ints(), Bases: bases, Types: types, Links: []api.Link{link}}, c.int())
	lab.Run(c.text() + "\nload " + c.text() + "\nrun 5\n" + c.text())
}

func systems(c chance) {
	s, e := system.New(nil, c.text(), c.texts(), c.texts())
	if e == api.OK {
		panic("a system of nothing")
	}
	s.Open(c.text())
	s.Close(c.text())
	s.Symbol(c.text(), c.text())
	s.Run(c.int() % 100)
}
