package reach

import (
	"math"
	"math/rand"
	"slices"
	"testing"

	"curtilage/api"
	"curtilage/cap"
	"curtilage/cpu"
	"curtilage/isa"
	"curtilage/tagmem"
)

const top = math.MaxUint64

// part is a capability of bytes from to end, standing at the first one.
func part(from, end uint64, perms int) api.Cap {
	return api.Cap{Base: from, Top: end, At: from, Perms: perms, Type: -1, Tag: true}
}

func typed(c api.Cap, typ int) api.Cap {
	c.Type = typ
	return c
}

// opened is c without its Type.
func opened(c api.Cap) api.Cap { return typed(c, -1) }

// rises tells whether each of l comes behind the one ahead of it.
func rises(l []api.Cap) bool {
	for i := 1; i < len(l); i++ {
		a, b := l[i-1], l[i]
		if slices.Compare([]uint64{a.Base, a.Top, a.At, uint64(a.Perms), uint64(a.Type + 1)}, []uint64{b.Base, b.Top, b.At, uint64(b.Perms), uint64(b.Type + 1)}) >= 0 {
			return false
		}
	}
	return true
}

func without(c api.Cap) api.Cap {
	c.Tag = false
	return c
}

// machine has two pages from 0 on, and registers from 1 on.
func machine(t *testing.T, pc api.Cap, regs ...api.Cap) *cpu.Machine {
	t.Helper()
	mem, _ := tagmem.New(4)
	if e := mem.Map(0, 2); e != api.OK {
		t.Fatal(e)
	}
	m := cpu.New(mem, pc)
	copy(m.Regs[1:], regs)
	return m
}

func store(t *testing.T, m *cpu.Machine, at uint64, c api.Cap) {
	t.Helper()
	if e := m.Mem.StoreCap(at, c); e != api.OK {
		t.Fatal(e)
	}
}

func want(t *testing.T, what string, m *cpu.Machine, l ...api.Cap) {
	t.Helper()
	if g := Of(m); !slices.Equal(g, l) {
		t.Errorf("%s: %+v, not %+v", what, g, l)
	}
}

func TestI1Registers(t *testing.T) {
	pc := part(0, 100, 5)
	want(t, "PC", machine(t, pc), pc)
	want(t, "nothing", machine(t, cap.Null()))
	m := machine(t, without(pc), part(5, 6, 1), cap.Int(7), without(part(1, 2, 3)), part(5, 6, 1), typed(part(0, 9, 3), 4))
	m.Regs[0], m.Regs[31] = part(0, 1, 1), part(31, 32, 1)
	want(t, "registers", m, typed(part(0, 9, 3), 4), part(5, 6, 1), part(31, 32, 1))
}

func TestI1Order(t *testing.T) {
	at := func(c api.Cap, to uint64) api.Cap {
		c.At = to
		return c
	}
	l := []api.Cap{part(1, 2, 1), at(part(1, 3, 1), 0), part(1, 3, 0), part(1, 3, 1), typed(part(1, 3, 1), 0), typed(part(1, 3, 1), 7), part(1, 3, 2), at(part(1, 3, 0), 9), part(2, 2, 1), part(top, top, 1)}
	m := machine(t, l[4], l[9], l[2], l[8], l[0], l[5], l[7], l[3], l[1], l[6])
	want(t, "all", m, l...)
}

func TestI1Memory(t *testing.T) {
	pc, inner := part(0, 4, 5), part(300, 310, 1)
	for what, x := range map[string]struct {
		c    api.Cap
		gets bool
	}{
		"may take": {part(64, 96, 9), true}, "more": {part(0, 512, 255), true}, "may not take": {part(64, 96, 255-api.MayTake), false}, "may not load": {part(64, 96, 255-api.MayLoad), false},
		"too short": {part(64, 95, 9), false}, "behind the beginning": {part(65, 96, 9), false}, "elsewhere": {part(96, 512, 9), false}, "sealed": {typed(part(64, 96, 9), 3), false},
		"without Tag": {without(part(64, 96, 9)), false}, "it stands elsewhere": {api.Cap{Base: 64, Top: 96, At: 9000, Perms: 9, Type: -1, Tag: true}, true},
	} {
		m := machine(t, pc, x.c)
		store(t, m, 64, inner)
		if g := Of(m); slices.Contains(g, inner) != x.gets {
			t.Errorf("%s: %+v", what, g)
		}
	}
}

func TestI1MemoryThroughMemory(t *testing.T) {
	m := machine(t, part(0, 4, 4), part(0, 32, 9))
	store(t, m, 0, part(96, 128, 9))
	store(t, m, 96, part(480, 512, 9))
	store(t, m, 480, part(0, 32, 9))
	store(t, m, 448, part(1, 1, 1))
	store(t, m, 32, cap.Int(5))
	want(t, "a chain, that comes round", m, part(0, 4, 4), part(0, 32, 9), part(96, 128, 9), part(480, 512, 9))
}

func TestI1Keys(t *testing.T) {
	pc := part(0, 4, 4)
	sealed := typed(part(100, 132, 9), 3)
	for what, x := range map[string]struct {
		key   api.Cap
		opens bool
	}{
		"of all": {part(0, 64, 255), true}, "of that": {part(3, 4, api.MayUnseal), true}, "that may seal": {part(3, 4, api.MaySeal), true}, "that may do neither": {part(0, 64, 255-96), false},
		"below": {part(0, 3, 255), false}, "above": {part(4, 64, 255), false}, "sealed": {typed(part(0, 64, 255), 9), false}, "without Tag": {without(part(0, 64, 255)), false},
		"that stands elsewhere": {api.Cap{Base: 3, Top: 4, At: 77, Perms: 64, Type: -1, Tag: true}, true}, "of no bytes": {part(3, 3, 255), false}, "of nearly all": {part(0, top, 32), true},
	} {
		m := machine(t, pc, sealed, x.key)
		if g := Of(m); slices.Contains(g, opened(sealed)) != x.opens {
			t.Errorf("a key %s: %+v", what, g)
		}
	}
	m := machine(t, pc, part(3, 4, api.MayUnseal), sealed)
	store(t, m, 128, part(9, 9, 9))
	want(t, "what is opened has not all of a granule", m, part(0, 4, 4), part(3, 4, 64), opened(sealed), sealed)
	m.Regs[2] = typed(part(128, 160, 9), 3)
	want(t, "what is opened is loaded from", m, part(0, 4, 4), part(3, 4, 64), part(9, 9, 9), part(128, 160, 9), typed(part(128, 160, 9), 3))
}

func TestI1KeyFoundBehindWhatItOpens(t *testing.T) {
	m := machine(t, part(0, 4, 4), typed(part(32, 64, 9), 63), part(64, 96, 9))
	store(t, m, 64, part(63, 64, api.MaySeal))
	store(t, m, 32, part(200, 201, 1))
	want(t, "key", m, part(0, 4, 4), part(32, 64, 9), typed(part(32, 64, 9), 63), part(63, 64, 32), part(64, 96, 9), part(200, 201, 1))
}

func TestI1Pairs(t *testing.T) {
	const invoke, run = api.MayInvoke, api.MayRun
	code, data := typed(part(100, 200, invoke|run|1), 5), typed(part(300, 400, invoke|1), 5)
	for what, x := range map[string]struct {
		a, b  api.Cap
		opens bool
	}{
		"a pair": {code, data, true}, "turned round": {data, code, true}, "two codes": {code, typed(part(300, 400, invoke|run), 5), false}, "two of data": {typed(part(100, 200, invoke), 5), data, false},
		"other types": {code, typed(opened(data), 6), false}, "code that may not be invoked": {typed(part(100, 200, run|1), 5), data, false}, "data that may not be invoked": {code, typed(part(300, 400, 1), 5), false},
		"one not sealed": {code, opened(data), false}, "one without Tag": {without(code), data, false}, "type 0": {typed(opened(code), 0), typed(opened(data), 0), true},
	} {
		m := machine(t, part(0, 4, 4), x.a, x.b)
		g := Of(m)
		if slices.Contains(g, opened(x.a)) && x.a.Type >= 0 != x.opens || x.opens && !slices.Contains(g, opened(x.b)) || !x.opens && len(g) > 3 {
			t.Errorf("%s: %+v", what, g)
		}
	}
	other, third := typed(part(500, 600, invoke|run), 5), typed(part(700, 800, run), 5)
	want(t, "more than two", machine(t, part(0, 4, 4), code, other, third, data),
		part(0, 4, 4), opened(code), code, opened(data), data, opened(other), other, third)
}

func TestI1Examples(t *testing.T) {
	pc, to := part(0, 100, 5), part(128, 160, api.MayLoad)
	m := machine(t, pc, to)
	store(t, m, 128, part(7, 8, 9))
	want(t, "without MayTake", m, pc, to)
	m.Regs[1].Perms |= api.MayTake
	want(t, "with MayTake", m, pc, part(7, 8, 9), part(128, 160, 9))
	m.Regs[2], m.Regs[3] = typed(part(10, 20, 1), 3), part(0, 64, api.MayUnseal)
	want(t, "a key", m, part(0, 64, 64), pc, part(7, 8, 9), part(10, 20, 1), typed(part(10, 20, 1), 3), part(128, 160, 9))
}

func TestI1AsMuchAsThereCanBe(t *testing.T) {
	mem, _ := tagmem.New(256)
	if e := mem.Map(0, 256); e != api.OK {
		t.Fatal(e)
	}
	m := cpu.New(mem, part(0, 4, 4))
	for i := range uint64(31) {
		m.Regs[i+1] = typed(part(100000+i, 200000, 1), int(i))
	}
	for at := uint64(0); at < 65536; at += 32 {
		store(t, m, at, typed(part(at, 70000, 1), int(at/32%64)))
	}
	store(t, m, 0, part(0, 64, api.MayUnseal))
	m.Regs[31] = part(0, 65536, 9)
	if g := Of(m); len(g) != 1+1+2*30+1+2*2047 {
		t.Error(len(g))
	}
}

func TestI2Over(t *testing.T) {
	l := []api.Cap{part(10, 20, 7), part(100, 200, 1), typed(part(0, 50, 255), 9), without(part(0, 1000, 255))}
	for i, x := range []struct {
		c    api.Cap
		over bool
	}{
		{part(10, 20, 7), true}, {part(12, 13, 3), true}, {part(10, 21, 7), false}, {part(10, 20, 15), false}, {part(150, 160, 1), true}, {part(15, 150, 1), false},
		{without(part(0, 9999, 255)), true}, {cap.Int(5), true}, {typed(part(12, 13, 3), 4), true}, {typed(part(12, 13, 3), 0), true}, {typed(part(12, 13, 8), 0), false}, {typed(part(0, 10, 1), 9), true}, {typed(part(0, 10, 1), 8), false},
		{part(0, 10, 1), false}, {part(999, 999, 1), true}, {part(999, 999, 64), false}, {typed(part(999, 999, 64), 9), true},
	} {
		if g := Over(l, x.c); g != x.over {
			t.Errorf("%d: %t", i, g)
		}
	}
	if Over(nil, part(0, 0, 0)) || !Over(nil, cap.Null()) {
		t.Error("over nothing")
	}
}

func TestI2May(t *testing.T) {
	l := []api.Cap{part(10, 20, 3), part(20, 30, 3), typed(part(100, 200, 255), 9), without(part(100, 200, 255)), part(top-9, top, 1), {Base: 40, Top: 50, At: 7, Perms: 1, Type: -1, Tag: true}}
	for i, x := range []struct {
		at, n uint64
		perms int
		may   bool
	}{
		{10, 10, 3, true}, {10, 1, 1, true}, {19, 1, 2, true}, {9, 1, 1, false}, {19, 2, 1, false}, {30, 1, 1, false}, {10, 1, 4, false}, {10, 1, 5, false}, {100, 1, 1, false},
		{top - 9, 9, 1, true}, {top - 9, 10, 1, false}, {top - 9, 11, 1, false}, {top - 1, 1, 1, true}, {top, 1, 1, false}, {top - 1, top, 1, false}, {15, top, 1, false},
		{40, 10, 1, true}, {40, 10, 0, true}, {45, 1, 256, false}, {15, 0, 1, true},
	} {
		if g := May(l, x.at, x.n, x.perms); g != x.may {
			t.Errorf("%d: %t", i, g)
		}
	}
}

func TestI3Keeps(t *testing.T) {
	mem, _ := tagmem.New(4)
	mem.Map(9, 1)
	mem.Map(1, 2)
	granules := func(from, n uint64) []uint64 {
		var l []uint64
		for i := range n {
			l = append(l, from+i*32)
		}
		return l
	}
	all := append(granules(256, 16), granules(2304, 8)...)
	l := []api.Cap{part(256, 768, 255-api.MayStore), typed(part(256, 768, 255), 4), without(part(256, 768, 255)), part(300, 300, 255), part(0, 256, 255), part(768, 2304, 255)}
	if g := Keeps(l, mem); !slices.Equal(g, all) {
		t.Error(g)
	}
	l = append(l, part(319, 321, api.MayStore), part(2335, 9999, 3), part(767, 768, 2))
	want := append([]uint64{256}, granules(352, 12)...)
	if g := Keeps(l, mem); !slices.Equal(g, want) {
		t.Error(g)
	}
	if g := Keeps(nil, nil); len(g) != 0 {
		t.Error(g)
	}
}

// anyCap is a capability by chance, such that others are near.
func anyCap(r *rand.Rand) api.Cap {
	from := uint64(r.Intn(16)) * 32
	c := api.Cap{Base: from, Top: from + uint64(r.Intn(4))*32, At: from, Perms: r.Intn(256), Type: -1, Tag: r.Intn(8) > 0}
	switch r.Intn(6) {
	case 0, 1:
		c.Type = r.Intn(4)
	case 2:
		c.Base, c.At, c.Top = uint64(r.Intn(4)), uint64(r.Intn(4)), 4
	}
	return c
}

// anyMachine has anything in a few registers and granules.
func anyMachine(t *testing.T, r *rand.Rand) *cpu.Machine {
	m := machine(t, part(0, 512, 4|r.Intn(2)), anyCap(r), anyCap(r), anyCap(r))
	for at := uint64(0); at < 512; at += 32 {
		if r.Intn(2) == 0 {
			store(t, m, at, anyCap(r))
		}
	}
	return m
}

// slow is what Of tells, by the rules, gone through until they give nothing more.
func slow(m *cpu.Machine) map[api.Cap]bool {
	has := map[api.Cap]bool{}
	for _, c := range append([]api.Cap{m.PC}, m.Regs[1:]...) {
		if c.Tag {
			has[c] = true
		}
	}
	for more := true; more; {
		more = false
		var l []api.Cap
		for c := range has {
			for _, at := range m.Mem.Tags() {
				if x, _ := m.Mem.LoadCap(at); c.Type < 0 && c.Perms&9 == 9 && c.Base <= at && at+32 <= c.Top {
					l = append(l, x)
				}
			}
			for d := range has {
				key := d.Type < 0 && d.Perms&96 != 0 && d.Base <= uint64(c.Type) && uint64(c.Type) < d.Top
				pair := c.Type == d.Type && c.Perms&d.Perms&128 != 0 && (c.Perms^d.Perms)&4 != 0
				if c.Type >= 0 && (key || pair) {
					l = append(l, opened(c))
				}
			}
		}
		for _, c := range l {
			more = more || !has[c]
			has[c] = true
		}
	}
	return has
}

func TestI1ByChance(t *testing.T) {
	r := rand.New(rand.NewSource(9))
	for range 600 {
		m := anyMachine(t, r)
		g, has := Of(m), slow(m)
		if len(g) != len(has) || !rises(g) {
			t.Fatal(g, has)
		}
		for _, c := range g {
			if !has[c] {
				t.Fatal(c)
			}
		}
	}
}

func TestI4NothingGetsBeyond(t *testing.T) {
	r := rand.New(rand.NewSource(10))
	for range 1500 {
		m := anyMachine(t, r)
		l, stood := Of(m), m.Caps()
		kept := Keeps(l, m.Mem)
		var before []string
		for _, at := range kept {
			c, _ := m.Mem.LoadCap(at)
			before = append(before, string(m.Mem.Bytes(at, 32))+cap.Text(c))
		}
		for range 40 {
			op := []int{29, 42, 49, 49, 54, 54, 53, 50, 64, 67, 68, 69, 70, 71, 72, 74, 80, 62}[r.Intn(18)]
			x := api.Inst{Op: op, Rd: r.Intn(5), Rs1: r.Intn(5), Rs2: r.Intn(5)}
			step(m, x)
		}
		for _, c := range m.Caps() {
			if !Over(l, c) && !slices.Contains(stood, c) {
				t.Fatalf("%+v is not over %+v", c, l)
			}
		}
		for _, c := range m.Regs {
			if !Over(l, c) {
				t.Fatalf("%+v is not over %+v", c, l)
			}
		}
		for i, at := range kept {
			c, _ := m.Mem.LoadCap(at)
			if before[i] != string(m.Mem.Bytes(at, 32))+cap.Text(c) {
				t.Fatalf("%d changed", at)
			}
		}
	}
}

// step does one instruction: it stands on a page that nothing but PC reaches.
func step(m *cpu.Machine, x api.Inst) {
	switch isa.Kind(x.Op) {
	case api.KindLoad, api.KindOne, api.KindI:
		x.Rs2 = 0
	case api.KindSave, api.KindTwo:
		x.Rd = 0
	case api.KindHigh:
		x.Rs1, x.Rs2 = 0, 0
	}
	w, e := isa.Encode(x)
	if e != api.OK {
		panic(e)
	}
	m.Mem.Map(9, 1)
	m.Mem.Store(9*256, 4, uint64(w))
	pc := m.PC
	m.PC = part(9*256, 9*256+4, api.MayRun)
	m.Step()
	// auipcc and a jump by register would hand out the page of the code, or go elsewhere: these stay outside of what is asked.
	for i := range m.Regs {
		if m.Regs[i].Base == 9*256 {
			m.Regs[i] = cap.Null()
		}
	}
	if m.PC.Base == 9*256 {
		m.PC = pc
	}
	m.Mem.Unmap(9, 1)
}
