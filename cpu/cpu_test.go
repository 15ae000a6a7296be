package cpu

import (
	"bytes"
	"math"
	"math/rand"
	"slices"
	"strings"
	"testing"

	"curtilage/alu"
	"curtilage/api"
	"curtilage/asm"
	"curtilage/cap"
	"curtilage/isa"
	"curtilage/tagmem"
)

const top = math.MaxUint64

// part is a capability of bytes from to end, standing at the first one.
func part(from, end uint64, perms int) api.Cap {
	return api.Cap{Base: from, Top: end, At: from, Perms: perms, Type: -1, Tag: true}
}

func typed(c api.Cap, typ int) api.Cap {
	c.Type = typ
	return c
}

func without(c api.Cap) api.Cap {
	c.Tag = false
	return c
}

func at(c api.Cap, to uint64) api.Cap {
	c.At = to
	return c
}

// machine has four pages from 0 on, its code at 256, which may be run, and nothing else.
func machine(t *testing.T, lines ...string) *Machine {
	t.Helper()
	mem, _ := tagmem.New(8)
	if e := mem.Map(0, 4); e != api.OK {
		t.Fatal(e)
	}
	code, line, e := asm.Program(strings.Join(lines, "\n"))
	if e != api.OK {
		t.Fatalf("%q: line %d, %d", lines, line, e)
	}
	if e := mem.Put(256, code); e != api.OK {
		t.Fatal(e)
	}
	return New(mem, part(256, 512, api.MayRun|api.MayLoad))
}

func (m *Machine) steps(t *testing.T, n int) {
	t.Helper()
	for i := range n {
		if e := m.Step(); e != api.OK {
			t.Fatalf("step %d: %d", i, e)
		}
	}
}

// all is everything that a step could change.
type all struct {
	pc    api.Cap
	regs  [32]api.Cap
	bytes string
	tags  int
}

func (m *Machine) all() all {
	return all{m.PC, m.Regs, string(m.Mem.Bytes(0, 1024)), len(m.Mem.Tags())}
}

// fails does a step that tells an error, and changes nothing.
func (m *Machine) fails(t *testing.T, what string, want api.Errno) {
	t.Helper()
	before := m.all()
	if e := m.Step(); e != want {
		t.Errorf("%s: %d, not %d", what, e, want)
	}
	if m.all() != before {
		t.Errorf("%s: something changed", what)
	}
}

func same(t *testing.T, what string, got, want api.Cap) {
	t.Helper()
	if got != want {
		t.Errorf("%s: %+v, not %+v", what, got, want)
	}
}

func TestG1New(t *testing.T) {
	mem, _ := tagmem.New(1)
	m := New(mem, part(1, 2, 3))
	if m.PC != part(1, 2, 3) || m.Mem != mem {
		t.Error(m)
	}
	for i, c := range m.Regs {
		if c != cap.Null() {
			t.Error(i, c)
		}
	}
}

func TestG1Caps(t *testing.T) {
	m := machine(t)
	if l := m.Caps(); !slices.Equal(l, []api.Cap{m.PC}) {
		t.Error(l)
	}
	m.Regs[0], m.Regs[1], m.Regs[31], m.Regs[5] = part(0, 1, 1), typed(part(1, 2, 1), 3), part(31, 32, 1), cap.Int(6)
	for _, at := range []uint64{800, 0, 512} {
		if e := m.Mem.StoreCap(at, part(at, at+1, 2)); e != api.OK {
			t.Fatal(e)
		}
	}
	want := []api.Cap{m.PC, m.Regs[1], m.Regs[31], part(0, 1, 2), part(512, 513, 2), part(800, 801, 2)}
	if l := m.Caps(); !slices.Equal(l, want) {
		t.Error(l)
	}
	m.PC = without(m.PC)
	if l := m.Caps(); !slices.Equal(l, want[1:]) {
		t.Error(l)
	}
}

func TestG2Fetch(t *testing.T) {
	for what, x := range map[string]struct {
		pc api.Cap
		e  api.Errno
	}{
		"no Tag": {without(typed(part(0, 0, 0), 3)), api.ErrTag}, "sealed": {typed(part(0, 0, 0), 3), api.ErrSeal}, "may not run": {part(256, 256, api.AllPerms-api.MayRun), api.ErrPerm},
		"too short": {part(256, 259, api.MayRun), api.ErrBound}, "ahead": {at(part(256, 512, api.MayRun), 252), api.ErrBound}, "behind": {at(part(256, 512, api.MayRun), 509), api.ErrBound},
		"crooked": {at(part(256, 512, api.MayRun), 258), api.ErrAlign}, "not mapped": {part(1024, 2048, api.MayRun), api.ErrPage}, "no code": {at(part(256, 512, api.MayRun), 508), api.ErrCode},
	} {
		m := machine(t, "addi c1, c0, 5")
		m.PC = x.pc
		m.fails(t, what, x.e)
	}
	m := machine(t, "addi c1, c0, 5", "add c2, c1, c1")
	m.PC.Perms = api.MayRun
	m.steps(t, 2)
	same(t, "c2", m.Regs[2], cap.Int(10))
	same(t, "PC", m.PC, at(part(256, 512, api.MayRun), 264))
}

func TestG2ToTheEndOfItsBytes(t *testing.T) {
	m := machine(t, "addi c1, c1, 1", "addi c1, c1, 1", "addi c1, c1, 1")
	m.PC = part(256, 264, api.MayRun)
	m.steps(t, 2)
	m.fails(t, "behind the end", api.ErrBound)
}

func TestG3Reckoning(t *testing.T) {
	for op := 1; op <= 41; op++ {
		operands, n := "c2, c3", uint64(77)
		if isa.Kind(op) == api.KindI {
			operands, n = "c2, 13", 13
		}
		m := machine(t, isa.Name(op)+" c1, "+operands)
		m.Regs[2], m.Regs[3] = typed(part(5, 9, 255), 4), cap.Int(77)
		m.Regs[2].At = top - 5
		m.steps(t, 1)
		w, _ := alu.Reckon(op, top-5, n)
		same(t, isa.Name(op), m.Regs[1], cap.Int(w))
	}
	m := machine(t, "addi c1, c2, -1", "addi c0, c2, 5", "add c3, c0, c0")
	m.Regs[0] = part(1, 2, 3)
	m.steps(t, 3)
	same(t, "below 0", m.Regs[1], cap.Int(top))
	same(t, "register 0 is the integer 0", m.Regs[3], cap.Int(0))
}

func TestG3High(t *testing.T) {
	m := machine(t, "lui c1, -4096", "auipcc c2, 4096", "auipcc c3, 0", "auipcc c4, -4096", "lui c0, 4096")
	m.steps(t, 5)
	same(t, "lui", m.Regs[1], cap.Int(top-4095))
	same(t, "auipcc", m.Regs[2], at(m.PC, 260+4096))
	same(t, "auipcc 0", m.Regs[3], at(m.PC, 264))
	same(t, "auipcc below 0", m.Regs[4], at(m.PC, 268+top-4095))
	same(t, "PC", m.PC, at(part(256, 512, 5), 276))
}

func TestG3Conditions(t *testing.T) {
	for op := 55; op <= 60; op++ {
		for _, x := range [][2]uint64{{1, 1}, {1, 2}, {2, 1}, {top, 1}, {1, top}} {
			m := machine(t, "ecall", isa.Name(op)+" c1, c2, -4")
			m.PC.At, m.Regs[1], m.Regs[2] = 260, part(0, 9, 1), cap.Int(x[1])
			m.Regs[1].At = x[0]
			m.steps(t, 1)
			want := uint64(264)
			if holds, _ := alu.Holds(op, x[0], x[1]); holds {
				want = 256
			}
			same(t, isa.Name(op), m.PC, at(part(256, 512, 5), want))
		}
	}
}

func TestG3Jump(t *testing.T) {
	m := machine(t, "cjal c1, 4", "cjal c0, -2")
	m.steps(t, 1)
	same(t, "c1", m.Regs[1], at(part(256, 512, 5), 260))
	same(t, "PC", m.PC, at(part(256, 512, 5), 260))
	m.steps(t, 1)
	same(t, "crooked", m.PC, at(part(256, 512, 5), 258))
	m.fails(t, "crooked", api.ErrAlign)
}

func TestG3JumpByRegister(t *testing.T) {
	to := part(512, 520, api.MayRun)
	m := machine(t, "cjalr c1, 4(c1)")
	m.Regs[1] = to
	m.steps(t, 1)
	same(t, "c1", m.Regs[1], at(part(256, 512, 5), 260))
	same(t, "PC", m.PC, at(to, 516))
	m = machine(t, "cjalr c0, -4(c1)")
	m.Regs[1] = at(to, 520)
	m.steps(t, 1)
	same(t, "PC", m.PC, at(to, 516))
	for what, x := range map[string]struct {
		c api.Cap
		e api.Errno
	}{
		"no Tag": {without(to), api.ErrTag}, "sealed": {typed(to, 3), api.ErrSeal}, "may not run": {part(512, 520, 251), api.ErrPerm}, "beyond": {at(to, 513), api.ErrBound},
		"ahead": {at(to, 504), api.ErrBound}, "crooked": {at(to, 510), api.ErrAlign}, "crooked by one": {at(to, 509), api.ErrAlign},
	} {
		m := machine(t, "cjalr c1, 4(c2)")
		m.Regs[2] = x.c
		m.fails(t, what, x.e)
	}
}

func TestG3LoadsAndStores(t *testing.T) {
	m := machine(t, "sd c2, 8(c1)", "lb c3, 8(c1)", "lh c4, 8(c1)", "lw c5, 8(c1)", "ld c6, 8(c1)", "lbu c7, 8(c1)", "lhu c8, 8(c1)", "lwu c9, 8(c1)",
		"sb c2, 16(c1)", "sh c2, 18(c1)", "sw c2, 20(c1)", "ld c0, 8(c1)", "sd c0, 24(c1)")
	data := part(512, 544, api.MayLoad|api.MayStore)
	m.Regs[1], m.Regs[2] = data, at(data, 0x8182838485868788)
	m.steps(t, 13)
	for n, w := range map[int]uint64{3: top - 0x77, 4: top - 0x7877, 5: top - 0x7a797877, 6: 0x8182838485868788, 7: 0x88, 8: 0x8788, 9: 0x85868788} {
		same(t, "what was loaded", m.Regs[n], cap.Int(w))
	}
	if b := m.Mem.Bytes(520, 24); !bytes.Equal(b[:16], []byte{0x88, 0x87, 0x86, 0x85, 0x84, 0x83, 0x82, 0x81, 0x88, 0, 0x88, 0x87, 0x88, 0x87, 0x86, 0x85}) {
		t.Error(b)
	}
}

func TestG3PlacesThatCannotBeReached(t *testing.T) {
	data := part(512, 544, 255)
	for what, x := range map[string]struct {
		c           api.Cap
		load, store api.Errno
	}{
		"number": {cap.Int(512), api.ErrTag, api.ErrTag}, "no Tag": {without(typed(data, 1)), api.ErrTag, api.ErrTag}, "sealed": {typed(part(0, 0, 0), 0), api.ErrSeal, api.ErrSeal},
		"may load": {part(512, 544, api.MayLoad), api.OK, api.ErrPerm}, "may store": {part(512, 544, api.MayStore), api.ErrPerm, api.OK}, "may all else": {part(0, 0, 252), api.ErrPerm, api.ErrPerm},
		"behind": {at(part(480, 512, 255), 512), api.ErrBound, api.ErrBound}, "ahead": {at(data, 511), api.ErrBound, api.ErrBound}, "round": {at(part(0, 544, 255), top), api.ErrBound, api.ErrBound},
		"crooked": {at(part(512, 600, 255), 513), api.ErrAlign, api.ErrAlign}, "not mapped": {part(1024, 1088, 255), api.ErrPage, api.ErrPage},
	} {
		for _, name := range []string{"lb", "lh", "lw", "ld", "lbu", "lhu", "lwu", "clc", "sb", "sh", "sw", "sd", "csc"} {
			want, c := x.load, x.c
			if isa.Kind(isa.Find(name)) == api.KindSave {
				want = x.store
			}
			if want == api.ErrAlign && name[1] == 'b' {
				continue
			}
			m := machine(t, name+" c1, 0(c2)")
			m.Regs[2] = c
			if want == api.OK {
				m.steps(t, 1)
			} else {
				m.fails(t, what+" "+name, want)
			}
		}
	}
}

func TestG3WidthOfPlaces(t *testing.T) {
	for name, n := range map[string]uint64{"lb": 1, "lhu": 2, "lw": 4, "ld": 8, "clc": 32, "sb": 1, "sh": 2, "sw": 4, "sd": 8, "csc": 32} {
		m := machine(t, name+" c1, 0(c2)")
		m.Regs[2] = part(512, 512+n, 255)
		m.steps(t, 1)
		m = machine(t, name+" c1, 0(c2)")
		m.Regs[2] = part(512, 511+n, 255)
		m.fails(t, name, api.ErrBound)
	}
}

func TestG3CapabilitiesInMemory(t *testing.T) {
	what := typed(part(3, 99, 77), 12)
	for perms, tag := range map[int]bool{api.MayLoad: false, api.MayLoad | api.MayTake: true, api.MayLoad | api.MayGive: false} {
		m := machine(t, "clc c1, 32(c2)")
		m.Regs[2] = part(512, 576, perms)
		if e := m.Mem.StoreCap(544, what); e != api.OK {
			t.Fatal(e)
		}
		m.steps(t, 1)
		what.Tag = tag
		same(t, "what was loaded", m.Regs[1], what)
		what.Tag = true
	}
	for _, x := range []struct {
		perms int
		c     api.Cap
		e     api.Errno
	}{
		{api.MayStore | api.MayGive, what, api.OK}, {api.MayStore, what, api.ErrPerm}, {api.MayStore | api.MayTake, what, api.ErrPerm},
		{api.MayStore, without(what), api.OK}, {api.MayStore, cap.Int(5), api.OK}, {api.MayGive, what, api.ErrPerm},
	} {
		m := machine(t, "csc c1, 32(c2)")
		m.Regs[1], m.Regs[2] = x.c, part(512, 576, x.perms)
		if x.e != api.OK {
			m.fails(t, "csc", x.e)
			continue
		}
		m.steps(t, 1)
		c, _ := m.Mem.LoadCap(544)
		same(t, "what was stored", c, x.c)
	}
	m := machine(t, "csc c1, 0(c2)")
	m.Regs[1], m.Regs[2] = what, part(1024, 1056, api.MayStore)
	m.fails(t, "not given, ahead of not mapped", api.ErrPerm)
	m.Regs[2] = part(1024, 1055, api.MayStore)
	m.fails(t, "too short, ahead of not given", api.ErrBound)
}

func TestG3CapabilitiesChanged(t *testing.T) {
	r := part(100, 200, 255)
	key := at(part(0, 64, 255), 9)
	for text, x := range map[string]struct{ c2, c3, want api.Cap }{
		"csetbounds c1, c2, c3":       {at(r, 120), cap.Int(10), part(120, 130, 255)},
		"csetbounds c1, c2, c0":       {at(r, 120), r, part(120, 120, 255)},
		"candperm c1, c2, c3":         {r, cap.Int(256 + 5), part(100, 200, 5)},
		"csetaddr c1, c2, c3":         {r, at(r, 7), at(r, 7)},
		"cincaddr c1, c2, c3":         {r, cap.Int(top), at(r, 99)},
		"cseal c1, c2, c3":            {r, key, typed(r, 9)},
		"cunseal c1, c2, c3":          {typed(r, 9), key, r},
		"cmove c1, c2":                {typed(r, 9), key, typed(r, 9)},
		"cmove c1, c0":                {r, r, cap.Null()},
		"ccleartag c1, c2":            {typed(r, 9), key, without(typed(r, 9))},
		"cgetperm c1, c2":             {part(1, 2, 99), key, cap.Int(99)},
		"cgettype c1, c2":             {r, key, cap.Int(top)},
		"cgettype c1, c3":             {r, typed(r, 63), cap.Int(63)},
		"cgetbase c1, c2":             {r, key, cap.Int(100)},
		"cgetlen c1, c2":              {at(r, 5), key, cap.Int(100)},
		"cgetlen c1, c3":              {r, api.Cap{Base: 9, Top: 5, Type: -1, Tag: true}, cap.Int(0)},
		"cgettag c1, c2":              {r, key, cap.Int(1)},
		"cgettag c1, c0":              {r, key, cap.Int(0)},
		"cgetaddr c1, c2":             {at(r, 77), key, cap.Int(77)},
		"cseal c1, c2, c2":            {r, key, without(r)},
		"csetaddr c1, c2, c2":         {typed(at(r, 5), 4), key, without(typed(at(r, 5), 4))},
		"ctestsubset c1, c2, c3":      {r, part(150, 160, 3), cap.Int(1)},
		"ctestsubset c1, c3, c2":      {r, part(150, 160, 3), cap.Int(0)},
		"ctestsubset c1, c0, c2":      {cap.Int(4), key, cap.Int(1)},
		"ctestsubset c1, c2, c0":      {r, key, cap.Int(0)},
		"ctestsubset c4, c2, c0":      {r, key, cap.Null()},
		"candperm c0, c2, c3":         {r, key, cap.Null()},
		"cincaddr c1, c2, c2":         {cap.Int(4), key, cap.Int(8)},
		"cgetaddr c1, c0":             {r, r, cap.Int(0)},
		"csetbounds c1, c2, c2":       {part(0, 200, 1), key, part(0, 0, 1)},
		"ctestsubset c1, c3, c3":      {r, typed(r, 4), cap.Int(1)},
		"ctestsubset c1, c2, c3    ;": {r, typed(r, 4), cap.Int(0)},
	} {
		m := machine(t, text)
		m.Regs[2], m.Regs[3] = x.c2, x.c3
		m.steps(t, 1)
		same(t, text, m.Regs[1], x.want)
	}
}

func TestG3Invoke(t *testing.T) {
	code, data := typed(part(512, 600, 141), 5), typed(part(700, 800, 155), 5)
	m := machine(t, "cinvoke c1, c2")
	m.Regs[1], m.Regs[2] = at(code, 520), data
	m.steps(t, 1)
	same(t, "PC", m.PC, at(part(512, 600, 141), 520))
	same(t, "c31", m.Regs[31], part(700, 800, 155))
	same(t, "c1 stays", m.Regs[1], at(code, 520))
	m = machine(t, "cinvoke c1, c2")
	m.Regs[1], m.Regs[2] = typed(code, 0), typed(data, 0)
	m.steps(t, 1)
	same(t, "PC, of type 0", m.PC, part(512, 600, 141))
	perms := func(c api.Cap, n int) api.Cap {
		c.Perms = n
		return c
	}
	for what, x := range map[string]struct {
		code, data api.Cap
		e          api.Errno
	}{
		"code without Tag": {without(typed(code, -1)), typed(data, -1), api.ErrTag}, "data without Tag": {typed(code, -1), without(data), api.ErrTag},
		"code not sealed": {typed(code, -1), perms(data, 0), api.ErrSeal}, "data not sealed": {perms(code, 0), typed(data, -1), api.ErrSeal}, "neither sealed": {typed(code, -1), typed(data, -1), api.ErrSeal},
		"types": {perms(code, 0), typed(data, 6), api.ErrType}, "code may not be invoked": {perms(code, 13), data, api.ErrPerm}, "data may not be invoked": {code, perms(data, 27), api.ErrPerm},
		"code may not run": {perms(code, 137), data, api.ErrPerm}, "data may run": {code, perms(data, 255), api.ErrPerm}, "the same twice": {code, code, api.ErrPerm}, "turned round": {data, code, api.ErrPerm},
	} {
		m := machine(t, "cinvoke c1, c2")
		m.Regs[1], m.Regs[2] = x.code, x.data
		m.fails(t, what, x.e)
	}
}

func TestG3Stops(t *testing.T) {
	machine(t, "ecall").fails(t, "ecall", api.ErrCall)
	machine(t, "ebreak").fails(t, "ebreak", api.ErrBreak)
}

func TestG3Examples(t *testing.T) {
	machine(t, "ld c1, 0(c0)").fails(t, "a number", api.ErrTag)
	m := machine(t, "auipcc c1, 0", "csetbounds c2, c1, c0", "lb c3, 0(c2)")
	m.steps(t, 2)
	m.fails(t, "no bytes", api.ErrBound)
}

func TestG4Text(t *testing.T) {
	m := machine(t)
	if s := m.Text(); s != "pc +256..512@256:5" {
		t.Error(s)
	}
	m.Regs[0], m.Regs[1], m.Regs[31], m.Regs[9], m.Regs[10] = part(1, 2, 3), cap.Int(5), typed(part(1, 2, 3), 4), cap.Null(), without(part(0, 0, 1))
	if s := m.Text(); s != "pc +256..512@256:5 c1 -0..0@5:0 c10 -0..0@0:1 c31 +1..2@1:3!4" {
		t.Error(s)
	}
}

func TestNoMachine(t *testing.T) {
	var none *Machine
	if none.Step() != api.ErrTag || none.Caps() != nil || none.Text() != "" {
		t.Error("none is something")
	}
	m := New(nil, part(0, 8, 255))
	if e := m.Step(); e != api.ErrPage || len(m.Caps()) != 1 {
		t.Error(e)
	}
}

// anyCap is a capability by chance, such that others, and the code, are near.
func anyCap(r *rand.Rand) api.Cap {
	from := uint64(r.Intn(32)) * 32
	c := api.Cap{Base: from, Top: from + uint64(r.Intn(400)), Perms: r.Intn(256), Type: -1, Tag: r.Intn(6) > 0}
	c.At = from + uint64(r.Intn(12)*8)
	switch r.Intn(4) {
	case 0:
		c.Type = r.Intn(4)
	case 1:
		c.Base, c.At = 0, uint64(r.Intn(4))
	case 2:
		c.Perms |= 31
	}
	return c
}

// fair tells whether c, had behind a step, is no more than what was had ahead of it.
func fair(c api.Cap, before []api.Cap) bool {
	may := func(perm int, typ int) bool {
		return slices.ContainsFunc(before, func(k api.Cap) bool {
			return k.Type < 0 && k.Perms&perm != 0 && k.At == uint64(typ) && k.Base <= k.At && k.At < k.Top
		})
	}
	for _, b := range before {
		if cap.Within(c, b) {
			return true
		}
		if b.Type >= 0 && c == typed(b, -1) && (may(api.MayUnseal, b.Type) || b.Perms&api.MayInvoke != 0) {
			return true
		}
		if b.Type < 0 && c.Type >= 0 && typed(c, -1) == b && may(api.MaySeal, c.Type) {
			return true
		}
	}
	return false
}

func TestG5NoStepMakesMore(t *testing.T) {
	r := rand.New(rand.NewSource(8))
	done := 0
	for range 3000 {
		m := machine(t)
		for range 12 {
			op := []int{49, 49, 54, 54, 64, 67, 68, 69, 70, 71, 72, 74, 80, 62, 63, 42, 53, 1}[r.Intn(18)]
			x := api.Inst{Op: op, Rd: r.Intn(4), Rs1: r.Intn(4), Rs2: r.Intn(4)}
			switch isa.Kind(op) {
			case api.KindLoad:
				x.Rs2 = 0
			case api.KindSave:
				x.Rd = 0
			case api.KindOne:
				x.Rs2 = 0
			case api.KindTwo:
				x.Rd = 0
			case api.KindHigh, api.KindJump:
				x.Rs1, x.Rs2, x.Imm = 0, 0, int64(r.Intn(2))*4096
			}
			w, e := isa.Encode(x)
			if e != api.OK {
				t.Fatal(x, e)
			}
			for range 4 {
				m.Mem.Store(uint64(256+r.Intn(64)*4), 4, uint64(w))
			}
		}
		for i := range 4 {
			m.Regs[i] = anyCap(r)
			m.Mem.StoreCap(uint64(512+i*32), anyCap(r))
		}
		for range 8 {
			before := m.Caps()
			was := m.all()
			if m.Step() != api.OK {
				if m.all() != was {
					t.Fatal("an error, and something changed")
				}
				break
			}
			done++
			for _, c := range m.Caps() {
				if !fair(c, before) {
					t.Fatalf("%+v of %+v", c, before)
				}
			}
		}
	}
	if done < 1000 {
		t.Error("hardly any step was done", done)
	}
}

func BenchmarkStep(b *testing.B) {
	mem, _ := tagmem.New(8)
	mem.Map(0, 4)
	code, _, _ := asm.Program("x:\naddi c1, c1, 1\ncjal c0, x\n")
	mem.Put(256, code)
	m := New(mem, part(256, 512, api.MayRun|api.MayLoad))
	for range b.N {
		m.Step()
	}
}
