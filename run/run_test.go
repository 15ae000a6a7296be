package run

import (
	"math"
	"slices"
	"strings"
	"testing"

	"curtilage/api"
	"curtilage/asm"
	"curtilage/cap"
	"curtilage/cpu"
	"curtilage/tagmem"
)

// machine has its code at 0.
func machine(t *testing.T, lines ...string) *cpu.Machine {
	t.Helper()
	mem, _ := tagmem.New(1)
	mem.Map(0, 1)
	code, line, e := asm.Program(strings.Join(lines, "\n"))
	if e != api.OK {
		t.Fatal(line, e)
	}
	mem.Put(0, code)
	return cpu.New(mem, cap.Root(256))
}

// loop goes round for ever.
func loop(t *testing.T) *cpu.Machine {
	t.Helper()
	return machine(t, "x:", "addi c1, c1, 1", "cjal c0, x")
}

// short does three steps, and then tells an error.
func short(t *testing.T) *cpu.Machine {
	t.Helper()
	return machine(t, "addi c1, c1, 1", "addi c1, c1, 1", "addi c1, c1, 1", "ebreak")
}

func TestH1Go(t *testing.T) {
	for i, x := range []struct {
		m     *cpu.Machine
		fuel  int
		ticks []int
		want  Stop
	}{
		{loop(t), 5, nil, Stop{api.ErrFuel, 5}}, {loop(t), 5, []int{3}, Stop{api.ErrTick, 3}}, {loop(t), 5, []int{9, 4, 2, 3}, Stop{api.ErrTick, 2}},
		{loop(t), 5, []int{5}, Stop{api.ErrFuel, 5}}, {loop(t), 5, []int{0}, Stop{api.ErrTick, 0}}, {loop(t), 0, []int{0}, Stop{api.ErrFuel, 0}},
		{loop(t), 0, nil, Stop{api.ErrFuel, 0}}, {loop(t), -5, nil, Stop{api.ErrFuel, 0}}, {loop(t), math.MinInt, []int{-5, 0}, Stop{api.ErrFuel, 0}},
		{loop(t), 5, []int{-1, 7, math.MinInt, math.MaxInt}, Stop{api.ErrFuel, 5}}, {loop(t), 5, []int{}, Stop{api.ErrFuel, 5}}, {loop(t), 5, []int{-3, 4}, Stop{api.ErrTick, 4}},
		{short(t), 9, nil, Stop{api.ErrBreak, 3}}, {short(t), 3, nil, Stop{api.ErrFuel, 3}}, {short(t), 4, nil, Stop{api.ErrBreak, 3}}, {short(t), 9, []int{3}, Stop{api.ErrTick, 3}},
		{short(t), math.MaxInt, []int{4}, Stop{api.ErrBreak, 3}}, {machine(t, "ecall"), 1, nil, Stop{api.ErrCall, 0}}, {machine(t), 9, nil, Stop{api.ErrCode, 0}},
	} {
		if g := Go(x.m, x.fuel, x.ticks); g != x.want {
			t.Errorf("%d: %v, not %v", i, g, x.want)
		}
	}
}

func TestH1StepsAreDone(t *testing.T) {
	m := short(t)
	Go(m, 2, nil)
	if m.Regs[1] != cap.Int(2) || m.PC.At != 8 {
		t.Error(m.Text())
	}
	ticks := []int{9, 1}
	Go(m, 9, ticks)
	if m.Regs[1] != cap.Int(3) || m.PC.At != 12 || !slices.Equal(ticks, []int{9, 1}) {
		t.Error(m.Text(), ticks)
	}
}

func TestH2Until(t *testing.T) {
	for i, x := range []struct {
		m    *cpu.Machine
		fuel int
		at   uint64
		want Stop
	}{
		{loop(t), 5, 4, Stop{api.OK, 1}}, {loop(t), 5, 0, Stop{api.OK, 0}}, {loop(t), 0, 0, Stop{api.OK, 0}}, {loop(t), -1, 4, Stop{api.ErrFuel, 0}},
		{loop(t), 1, 4, Stop{api.OK, 1}}, {loop(t), 5, 8, Stop{api.ErrFuel, 5}}, {short(t), 9, 12, Stop{api.OK, 3}}, {short(t), 3, 12, Stop{api.OK, 3}},
		{short(t), 9, 16, Stop{api.ErrBreak, 3}}, {short(t), 2, 16, Stop{api.ErrFuel, 2}},
	} {
		if g := Until(x.m, x.fuel, x.at); g != x.want {
			t.Errorf("%d: %v, not %v", i, g, x.want)
		}
	}
}

func TestH3Trace(t *testing.T) {
	for i, x := range []struct {
		m    *cpu.Machine
		fuel int
		want []uint64
		e    api.Errno
	}{
		{loop(t), 3, []uint64{0, 4, 0}, api.ErrFuel}, {loop(t), 0, nil, api.ErrFuel}, {loop(t), -3, nil, api.ErrFuel}, {short(t), 9, []uint64{0, 4, 8}, api.ErrBreak},
		{short(t), 3, []uint64{0, 4, 8}, api.ErrFuel}, {machine(t, "ecall"), 9, nil, api.ErrCall}, {short(t), 2, []uint64{0, 4}, api.ErrFuel},
	} {
		if g, e := Trace(x.m, x.fuel); !slices.Equal(g, x.want) || e != x.e {
			t.Errorf("%d: %v, %d", i, g, e)
		}
	}
}

func TestH4TwoRunsAreOne(t *testing.T) {
	for first := range 12 {
		a, b, c := loop(t), loop(t), loop(t)
		Go(a, 12, nil)
		if Go(b, first, nil) != (Stop{api.ErrFuel, first}) || Go(b, 12-first, nil) != (Stop{api.ErrFuel, 12 - first}) {
			t.Error(first)
		}
		if Go(c, 20, []int{first}) != (Stop{api.ErrTick, first}) || Go(c, 12-first, nil) != (Stop{api.ErrFuel, 12 - first}) {
			t.Error(first)
		}
		if a.PC != b.PC || a.Regs != b.Regs || a.PC != c.PC || a.Regs != c.Regs {
			t.Error(first, a.Text(), b.Text(), c.Text())
		}
	}
	m, all := loop(t), []uint64{}
	for range 4 {
		l, _ := Trace(m, 3)
		all = append(all, l...)
	}
	if l, _ := Trace(loop(t), 12); !slices.Equal(l, all) {
		t.Error(l, all)
	}
}

func TestNoMachine(t *testing.T) {
	l, e := Trace(nil, 5)
	if Go(nil, 5, nil) != (Stop{api.ErrTag, 0}) || Until(nil, 5, 9) != (Stop{api.ErrTag, 0}) || len(l) != 0 || e != api.ErrTag {
		t.Error("none is something")
	}
}
