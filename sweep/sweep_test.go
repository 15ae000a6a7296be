package sweep

import (
	"bytes"
	"math"
	"math/rand"
	"slices"
	"testing"

	"curtilage/api"
	"curtilage/cap"
	"curtilage/cpu"
	"curtilage/tagmem"
)

const top = math.MaxUint64

func part(from, end uint64) api.Cap {
	return api.Cap{Base: from, Top: end, At: from, Perms: 5, Type: -1, Tag: true}
}

func typed(c api.Cap, typ int) api.Cap {
	c.Type = typ
	return c
}

func without(c api.Cap) api.Cap {
	c.Tag = false
	return c
}

func TestV1Touches(t *testing.T) {
	for i, x := range []struct {
		c       api.Cap
		from, n uint64
		typ     int
		want    bool
	}{
		{part(0, 256), 256, 256, 9, false}, {part(0, 257), 256, 256, 9, true}, {part(511, 600), 256, 256, 9, true}, {part(512, 600), 256, 256, 9, false}, {part(300, 300), 256, 256, 9, true}, {typed(part(0, 9), 9), 256, 256, 9, true},
		{without(part(300, 301)), 256, 256, 9, false}, {without(typed(part(300, 301), 9)), 256, 256, 9, false}, {part(0, 1000), 256, 256, 9, true}, {part(300, 301), 256, 256, 9, true}, {part(256, 257), 256, 256, -1, true},
		{part(256, 256), 256, 256, -1, true}, {part(511, 511), 256, 256, -1, true}, {part(512, 512), 256, 256, -1, false}, {part(255, 255), 256, 256, -1, false}, {part(255, 256), 256, 256, -1, false},
		{part(300, 299), 256, 256, -1, true}, {part(600, 299), 256, 256, -1, false},
		{part(0, 1000), 256, 0, -1, false}, {part(256, 256), 256, 0, -1, false}, {typed(part(256, 256), 0), 256, 0, 0, true}, {typed(part(0, 9), 9), 256, 256, 8, false}, {typed(part(0, 9), 9), 256, 256, -1, false}, {part(0, 9), 256, 256, -1, false},
		{typed(part(300, 400), 9), 256, 256, 8, true}, {typed(part(300, 300), 9), 256, 256, 8, true},
		{part(0, 5), top - 9, 20, -1, false}, {part(top-1, top), top - 9, 20, -1, true}, {part(top, top), top - 9, 10, -1, true}, {part(top, top), top - 9, 9, -1, false}, {part(top, top), top, top, -1, true}, {part(0, 1), top, top, -1, false}, {part(0, 0), top, 2, -1, false},
		{part(5, 6), 0, top, -1, true}, {part(0, 1), 0, 1, -1, true}, {part(0, top), top, 1, -1, false}, {part(0, top), top - 1, 1, -1, true}, {part(5, 5), 0, top, -1, true},
		{api.Cap{Base: 0, Top: 9, At: 300, Type: -1, Tag: true}, 256, 256, -1, false},
	} {
		if g := Touches(x.c, x.from, x.n, x.typ); g != x.want {
			t.Errorf("%d: %t", i, g)
		}
	}
}

// machine has two pages from 0 on.
func machine(t *testing.T) *cpu.Machine {
	t.Helper()
	m, _ := tagmem.New(4)
	if e := m.Map(0, 2); e != api.OK {
		t.Fatal(e)
	}
	return cpu.New(m, part(256, 512))
}

func TestV2Sweep(t *testing.T) {
	m := machine(t)
	m.Regs[0], m.Regs[1], m.Regs[2], m.Regs[31] = part(300, 301), part(300, 301), part(0, 256), typed(part(0, 9), 9)
	for at, c := range map[uint64]api.Cap{0: part(300, 301), 32: part(0, 9), 448: typed(part(999, 999), 9), 480: part(9, 300), 64: typed(part(9, 9), 8)} {
		m.Mem.StoreCap(at, c)
	}
	before := m.Mem.Bytes(0, 512)
	if l := Left(m, 256, 256, 9); !slices.Equal(l, []uint64{0, 448, 480}) {
		t.Error(l)
	}
	if n := Sweep(m, 256, 256, 9); n != 6 {
		t.Error(n)
	}
	if m.PC != without(part(256, 512)) || m.Regs[0] != part(300, 301) || m.Regs[1] != without(part(300, 301)) || m.Regs[2] != part(0, 256) || m.Regs[31] != without(typed(part(0, 9), 9)) || m.Regs[3] != cap.Null() {
		t.Error(m.Text())
	}
	if l := m.Mem.Tags(); !slices.Equal(l, []uint64{32, 64}) || !bytes.Equal(m.Mem.Bytes(0, 512), before) {
		t.Error(l)
	}
	if n := Sweep(m, 256, 256, 9); n != 0 || len(Left(m, 256, 256, 9)) != 0 {
		t.Error(n)
	}
	if n := Sweep(m, 0, 0, -1); n != 0 {
		t.Error(n)
	}
	if n := Sweep(m, 0, 0, 8); n != 1 || !slices.Equal(m.Mem.Tags(), []uint64{32}) {
		t.Error(n)
	}
}

func TestNoMachine(t *testing.T) {
	if Sweep(nil, 0, 9, 9) != 0 || Left(nil, 0, 9, 9) != nil || Sweep(cpu.New(nil, part(0, 9)), 0, 9, -1) != 1 {
		t.Error("none is something")
	}
}

func TestV3BehindASweep(t *testing.T) {
	r := rand.New(rand.NewSource(23))
	anything := func() api.Cap {
		from := uint64(r.Intn(100))
		return api.Cap{Base: from, Top: from + uint64(r.Intn(20)), At: uint64(r.Intn(150)), Perms: r.Intn(256), Type: r.Intn(8) - 4, Tag: r.Intn(5) > 0}
	}
	for range 2000 {
		m := machine(t)
		m.PC = anything()
		for i := range 32 {
			m.Regs[i] = anything()
			m.Regs[i].Type = max(m.Regs[i].Type, -1)
		}
		m.PC.Type = max(m.PC.Type, -1)
		for at := uint64(0); at < 512; at += 32 {
			c := anything()
			c.Type = max(c.Type, -1)
			m.Mem.StoreCap(at, c)
		}
		pc, regs, tags, all := m.PC, m.Regs, m.Mem.Tags(), m.Mem.Bytes(0, 512)
		from, n, typ := uint64(r.Intn(100)), uint64(r.Intn(40)), r.Intn(5)-1
		left := Left(m, from, n, typ)
		many := len(left)
		want := func(was api.Cap) api.Cap {
			touches := was.Type == typ && typ >= 0 || n > 0 && was.Base == was.Top && was.Base >= from && was.Base < from+n
			for b := was.Base; b < was.Top; b++ {
				touches = touches || b >= from && b < from+n
			}
			if was.Tag && touches {
				many++
				was.Tag = false
			}
			return was
		}
		got := Sweep(m, from, n, typ)
		if m.PC != want(pc) || m.Regs[0] != regs[0] {
			t.Fatal(pc, m.PC)
		}
		for i := 1; i < 32; i++ {
			if m.Regs[i] != want(regs[i]) {
				t.Fatal(regs[i], m.Regs[i])
			}
		}
		tags = slices.DeleteFunc(tags, func(at uint64) bool { return slices.Contains(left, at) })
		if got != many || !slices.Equal(m.Mem.Tags(), tags) || !bytes.Equal(m.Mem.Bytes(0, 512), all) || Sweep(m, from, n, typ) != 0 || len(Left(m, from, n, typ)) != 0 {
			t.Fatal(got, many)
		}
		for _, c := range m.Caps() {
			if Touches(c, from, n, typ) {
				t.Fatal(c)
			}
		}
	}
}
