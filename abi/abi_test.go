package abi

import (
	"math"
	"math/rand"
	"slices"
	"strings"
	"testing"

	"curtilage/api"
	"curtilage/cap"
	"curtilage/tagmem"
)

func part(from, end, at uint64, perms int) api.Cap {
	return api.Cap{Base: from, Top: end, At: at, Perms: perms, Type: -1, Tag: true}
}

func memory(budget int) *tagmem.Mem {
	m, _ := tagmem.New(budget)
	return m
}

// texts are so many, of so many bytes each.
func texts(many, n int) []string { return slices.Repeat([]string{strings.Repeat("x", n)}, many) }

func TestS1Need(t *testing.T) {
	for i, x := range []struct {
		args, env []string
		aux       []api.Cap
		want      int
	}{
		{nil, nil, nil, 96}, {[]string{"ab"}, nil, nil, 160}, {[]string{""}, nil, nil, 160}, {texts(1, 31), nil, nil, 160}, {texts(1, 32), nil, nil, 192}, {texts(1, 15), texts(1, 15), nil, 192}, {texts(1, 15), texts(1, 16), nil, 224},
		{nil, nil, make([]api.Cap, 3), 192}, {nil, texts(2, 0), make([]api.Cap, 8), 96 + 32 + 64 + 256}, {texts(8, 200), texts(8, 200), make([]api.Cap, 8), 3232 + 27*32}, {texts(100, 1000), nil, nil, 100128 + 103*32},
	} {
		if g := Need(x.args, x.env, x.aux); g != x.want {
			t.Errorf("%d: %d, not %d", i, g, x.want)
		}
	}
}

func TestS2Example(t *testing.T) {
	m := memory(4)
	s, e := Build(m, 4, 1, []string{"ab"}, nil, nil)
	if e != api.OK {
		t.Fatal(e)
	}
	want := Start{Stack: part(1184, 1280, 1280, 27), Argv: part(1056, 1088, 1056, 9), Envp: part(1120, 1120, 1120, 9), Auxv: part(1152, 1152, 1152, 9)}
	if s != want {
		t.Errorf("%+v", s)
	}
	if b := m.Bytes(1024, 4); string(b) != "ab\x00\x00" {
		t.Error(b)
	}
	if c, _ := m.LoadCap(1056); c != part(1024, 1027, 1024, 1) {
		t.Errorf("%+v", c)
	}
	for _, at := range []uint64{1088, 1120, 1152} {
		if c, _ := m.LoadCap(at); c != cap.Null() {
			t.Errorf("%d: %+v", at, c)
		}
	}
	if l := m.Tags(); !slices.Equal(l, []uint64{1056}) || !slices.Equal(m.Pages(), []uint64{4}) {
		t.Error(l, m.Pages())
	}
}

func TestS2AllThree(t *testing.T) {
	m := memory(4)
	aux := []api.Cap{part(1, 2, 3, api.MayLoad|api.MayRun), cap.Int(7), part(5, 9, 5, api.MayInvoke|api.MayStore)}
	s, e := Build(m, 100, 2, []string{"prog", "", "é"}, []string{"A=1", "B=" + strings.Repeat("b", 30)}, aux)
	if e != api.OK {
		t.Fatal(e)
	}
	const from = 25600
	// 5, 1, 3, 4 and 33 bytes are 46: the lists begin at 64.
	want := Start{Argv: part(from+64, from+160, from+64, 9), Envp: part(from+192, from+256, from+192, 9), Auxv: part(from+288, from+384, from+288, 9), Stack: part(from+416, from+512, from+512, 27)}
	if s != want {
		t.Errorf("%+v", s)
	}
	for at, want := range map[uint64]api.Cap{
		64: part(from, from+5, from, 1), 96: part(from+5, from+6, from+5, 1), 128: part(from+6, from+9, from+6, 1), 160: cap.Null(), 192: part(from+9, from+13, from+9, 1), 224: part(from+13, from+46, from+13, 1),
		256: cap.Null(), 288: aux[0], 320: aux[1], 352: aux[2], 384: cap.Null(),
	} {
		if c, _ := m.LoadCap(from + at); c != want {
			t.Errorf("%d: %+v, not %+v", at, c, want)
		}
	}
	if b := m.Bytes(from, 46); string(b) != "prog\x00\x00é\x00A=1\x00B="+strings.Repeat("b", 30)+"\x00" {
		t.Errorf("%q", b)
	}
}

func TestS2Errors(t *testing.T) {
	seal, unseal := part(0, 64, 0, api.MaySeal), part(0, 64, 0, api.MayUnseal)
	for i, x := range []struct {
		from      uint64
		pages     int
		args, env []string
		aux       []api.Cap
		e         api.Errno
	}{
		{4, 16, texts(8, 200), texts(8, 200), make([]api.Cap, 8), api.ErrRoom}, {4, 17, texts(8, 200), texts(8, 200), make([]api.Cap, 8), api.OK}, {4, 16, texts(9, 1), nil, nil, api.ErrArg}, {4, 16, nil, texts(9, 1), nil, api.ErrArg}, {4, 16, nil, nil, make([]api.Cap, 9), api.ErrArg},
		{4, 16, texts(1, 200), nil, nil, api.OK}, {4, 16, texts(1, 201), nil, nil, api.ErrArg}, {4, 16, nil, texts(1, 201), nil, api.ErrArg}, {4, 16, []string{"a\x00"}, nil, nil, api.ErrArg}, {4, 16, nil, []string{"ok", "\x00a"}, nil, api.ErrArg}, {4, 16, []string{"\xff\xfe"}, nil, nil, api.OK},
		{4, 16, []string{"\xf0\x00"}, nil, nil, api.ErrArg},
		{4, 16, nil, nil, []api.Cap{seal}, api.ErrArg}, {4, 16, nil, nil, []api.Cap{cap.Null(), unseal}, api.ErrArg}, {4, 16, nil, nil, []api.Cap{part(0, 9, 0, 6)}, api.ErrArg}, {4, 16, nil, nil, []api.Cap{part(0, 9, 0, 255-96-2)}, api.OK}, {4, 16, nil, nil, []api.Cap{part(0, 9, 0, 255-96-4)}, api.OK},
		{4, 16, nil, nil, []api.Cap{cap.Clear(cap.Root(9)), cap.Clear(seal)}, api.OK},
		{4, 1, nil, nil, make([]api.Cap, 3), api.OK}, {4, 1, nil, nil, make([]api.Cap, 4), api.ErrRoom}, {4, 1, []string{"a"}, nil, nil, api.OK}, {4, 1, []string{"a", "b"}, nil, nil, api.OK}, {4, 1, []string{"a", "b"}, []string{"c"}, nil, api.ErrRoom}, {4, 0, nil, nil, nil, api.ErrRoom}, {4, -1, nil, nil, nil, api.ErrRoom},
		{4, math.MinInt, nil, nil, nil, api.ErrRoom}, {4, math.MinInt / 256, nil, nil, nil, api.ErrRoom}, {4, math.MaxInt, nil, nil, nil, api.ErrArg}, {4, 1 << 56, nil, nil, nil, api.ErrArg}, {4, 65537, nil, nil, nil, api.ErrArg}, {65535, 2, nil, nil, nil, api.ErrArg}, {65536, 1, nil, nil, nil, api.ErrArg},
		{math.MaxUint64, 1, nil, nil, nil, api.ErrArg}, {65535, 1, nil, nil, nil, api.OK}, {1, 2, nil, nil, nil, api.ErrMapped}, {4, 21, nil, nil, nil, api.ErrBudget}, {4, 20, nil, nil, nil, api.OK}, {2, 1, texts(8, 200), nil, nil, api.ErrRoom}, {2, 1, texts(9, 200), nil, nil, api.ErrArg},
	} {
		m := memory(22)
		m.Map(1, 2)
		m.StoreCap(512, cap.Root(5))
		s, e := Build(m, x.from, x.pages, x.args, x.env, x.aux)
		if e != x.e || e != api.OK && (s != (Start{}) || !slices.Equal(m.Pages(), []uint64{1, 2}) || !slices.Equal(m.Tags(), []uint64{512})) {
			t.Errorf("%d: %+v, %d, not %d", i, s, e, x.e)
		}
	}
	if _, e := Build(nil, 4, 4, nil, nil, nil); e != api.ErrBudget {
		t.Error(e)
	}
}

func TestS4OnlyTheStackIsStoredTo(t *testing.T) {
	r := rand.New(rand.NewSource(21))
	any := func() []string {
		var l []string
		for range r.Intn(9) {
			l = append(l, strings.Repeat("t", r.Intn(60)))
		}
		return l
	}
	for range 500 {
		m := memory(16)
		args, env := any(), any()
		aux := []api.Cap{part(7, 8, 7, api.MayLoad|api.MayStore)}
		s, e := Build(m, 20, 8, args, env, aux)
		if e != api.OK {
			t.Fatal(e)
		}
		if s.Stack.Base != 20*256+uint64(Need(args, env, aux)) || s.Stack.Top != 28*256 || s.Stack.At != s.Stack.Top || s.Stack.Top-s.Stack.Base < 64 || s.Stack.Perms != 27 {
			t.Fatalf("%+v", s)
		}
		for _, at := range m.Tags() {
			c, _ := m.LoadCap(at)
			if at >= s.Stack.Base || c != aux[0] && (c.Perms != api.MayLoad || c.Base < 20*256 || c.Top > s.Argv.Base) {
				t.Fatalf("%d: %+v", at, c)
			}
		}
		for i, c := range []api.Cap{s.Argv, s.Envp, s.Auxv} {
			if c.Perms != api.MayLoad|api.MayTake || c.Top > s.Stack.Base || int(c.Top-c.Base)/32 != []int{len(args), len(env), 1}[i] || c.At != c.Base {
				t.Fatalf("%+v", s)
			}
		}
	}
}
