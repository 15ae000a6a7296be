package image

import (
	"bytes"
	"math"
	"math/rand"
	"slices"
	"testing"

	"curtilage/api"
	"curtilage/cap"
	"curtilage/tagmem"
)

// segment has its first bytes written as a text.
func segment(at, size uint64, flags int, text string) api.Segment {
	return api.Segment{At: at, Size: size, Flags: flags, Bytes: []byte(text)}
}

func object(l ...api.Segment) api.Object { return api.Object{Name: "a", Segments: l} }

func memory(t *testing.T, budget int, pages ...uint64) *tagmem.Mem {
	t.Helper()
	m, e := tagmem.New(budget)
	if e != api.OK {
		t.Fatal(e)
	}
	for _, p := range pages {
		if e := m.Map(p, 1); e != api.OK {
			t.Fatal(e)
		}
	}
	return m
}

// all is everything that there is in a memory.
func all(m *tagmem.Mem) string {
	text := ""
	for _, p := range m.Pages() {
		text += string(rune(p)) + string(m.Bytes(p*256, 256))
	}
	for _, at := range m.Tags() {
		c, _ := m.LoadCap(at)
		text += cap.Text(c)
	}
	return text
}

func part(from, end uint64, perms int) api.Cap {
	return api.Cap{Base: from, Top: end, At: from, Perms: perms, Type: -1, Tag: true}
}

func TestQ1Map(t *testing.T) {
	m := memory(t, 9)
	o := object(segment(0, 256, 5, "code"), segment(256, 300, 3, "\x01\x02"), segment(1024, 1, 1, ""))
	if e := Map(m, o, 1024); e != api.OK {
		t.Fatal(e)
	}
	if l := m.Pages(); !slices.Equal(l, []uint64{4, 5, 6, 8}) {
		t.Error(l)
	}
	want := make([]byte, 768)
	copy(want, "code")
	copy(want[256:], "\x01\x02")
	if b := m.Bytes(1024, 768); !bytes.Equal(b, want) || !bytes.Equal(m.Bytes(2048, 256), want[512:]) || len(m.Tags()) != 0 {
		t.Error(b)
	}
	o.Segments[0].Bytes[0] = 'x'
	if m.Bytes(1024, 1)[0] != 'c' {
		t.Error("what was handed in is shared")
	}
	if e := Map(memory(t, 0), object(), 1024); e != api.OK {
		t.Error(e)
	}
}

func TestQ1Errors(t *testing.T) {
	o := object(segment(0, 256, 5, "code"), segment(256, 300, 3, "\x01\x02"), segment(1024, 1, 1, ""))
	for i, x := range []struct {
		m    *tagmem.Mem
		base uint64
		e    api.Errno
	}{
		{memory(t, 9, 4), 1024, api.ErrMapped}, {memory(t, 9, 6), 1024, api.ErrMapped}, {memory(t, 9, 8), 1024, api.ErrMapped}, {memory(t, 9, 7), 1024, api.OK}, {memory(t, 3), 1024, api.ErrBudget}, {memory(t, 0), 1024, api.ErrBudget},
		{memory(t, 3, 8), 1024, api.ErrBudget}, {memory(t, 9), 65535 * 256, api.ErrArg}, {memory(t, 9), 65532 * 256, api.ErrArg}, {memory(t, 9), 65531 * 256, api.OK}, {memory(t, 2, 65535), 65531 * 256, api.ErrBudget}, {nil, 1024, api.ErrBudget},
	} {
		before := all(x.m)
		if e := Map(x.m, o, x.base); e != x.e || e != api.OK && all(x.m) != before {
			t.Errorf("%d: %d, %v", i, e, x.m.Pages())
		}
	}
}

func TestQ2Unmap(t *testing.T) {
	m := memory(t, 9, 7, 9)
	before := all(m)
	o := object(segment(0, 256, 5, "code"), segment(256, 300, 3, "\x01\x02"), segment(1024, 1, 1, ""))
	Map(m, o, 1024)
	m.StoreCap(1312, cap.Root(5))
	if e := Unmap(m, o, 1024); e != api.OK || all(m) != before {
		t.Error(e, m.Pages())
	}
	if e := Unmap(m, object(), 1024); e != api.OK {
		t.Error(e)
	}
	if e := Map(m, o, 65531*256); e != api.OK || Unmap(m, o, 65531*256) != api.OK || all(m) != before {
		t.Error("up to the last page", e, m.Pages())
	}
}

func TestQ2Errors(t *testing.T) {
	o := object(segment(0, 256, 5, ""), segment(256, 300, 3, ""), segment(1024, 1, 1, ""))
	for i, x := range []struct {
		m    *tagmem.Mem
		base uint64
		e    api.Errno
	}{
		{memory(t, 9), 1024, api.ErrPage}, {memory(t, 9, 5, 6, 8), 1024, api.ErrPage}, {memory(t, 9, 4, 5, 8), 1024, api.ErrPage}, {memory(t, 9, 4, 5, 6), 1024, api.ErrPage}, {memory(t, 9, 4, 6, 8), 1024, api.ErrPage},
		{memory(t, 9, 65532, 65533, 65534, 65535), 65532 * 256, api.ErrArg}, {memory(t, 9, 65533), 65532 * 256, api.ErrPage}, {memory(t, 9, 65535), 65535 * 256, api.ErrArg}, {nil, 1024, api.ErrPage},
	} {
		if x.m != nil {
			x.m.StoreCap(x.base, cap.Root(7))
			x.m.Put(x.base+100, []byte("abc"))
		}
		before := all(x.m)
		if e := Unmap(x.m, o, x.base); e != x.e || all(x.m) != before {
			t.Errorf("%d: %d, %v", i, e, x.m.Pages())
		}
	}
}

func TestQ3Perms(t *testing.T) {
	for flags, want := range []int{0, 9, 18, 27, 4, 13, 22, 31} {
		if g := Perms(flags); g != want {
			t.Errorf("%d: %d", flags, g)
		}
	}
}

func TestQ3Part(t *testing.T) {
	o := object(segment(0, 256, 5, ""), segment(256, 300, 3, "12"), segment(1024, 1, 1, ""))
	for i, want := range []api.Cap{part(1024, 1280, 13), part(1280, 1580, 27), part(2048, 2049, 9)} {
		if g := Part(o, 1024, i); g != want {
			t.Errorf("%d: %+v", i, g)
		}
	}
	for _, i := range []int{-1, 3, math.MinInt, math.MaxInt} {
		if g := Part(o, 1024, i); g.Tag {
			t.Error(i, g)
		}
	}
}

func TestQ4Own(t *testing.T) {
	for i, x := range []struct {
		o    api.Object
		want api.Cap
	}{
		{object(segment(0, 256, 5, ""), segment(256, 300, 3, "12"), segment(1024, 1, 2, "")), part(1280, 1580, 155)}, {object(segment(0, 9, 2, ""), segment(256, 300, 3, "12")), part(1024, 1033, 146)},
		{object(segment(0, 256, 5, "")), part(1024, 1024, 129)}, {object(), part(1024, 1024, 129)},
	} {
		if g := Own(x.o, 1024); g != x.want {
			t.Errorf("%d: %+v", i, g)
		}
	}
}

func TestQ5MappedAndUnmapped(t *testing.T) {
	r := rand.New(rand.NewSource(20))
	for range 1000 {
		m := memory(t, 12)
		for range r.Intn(4) {
			m.Map(uint64(4+r.Intn(12)), 1)
		}
		var o api.Object
		at := uint64(0)
		for range r.Intn(5) {
			at += uint64(r.Intn(2)) * 256
			s := segment(at, uint64(1+r.Intn(600)), []int{1, 2, 3, 4, 5}[r.Intn(5)], "bytes"[:r.Intn(2)])
			o.Segments = append(o.Segments, s)
			at += (s.Size + 255) / 256 * 256
		}
		before := all(m)
		e := Map(m, o, 1024)
		if e == api.OK {
			for i, s := range o.Segments {
				c := Part(o, 1024, i)
				if c.Perms&(api.MayStore|api.MayRun) == api.MayStore|api.MayRun || c.Perms&(api.MaySeal|api.MayUnseal) != 0 || len(m.Bytes(c.Base, int(s.Size))) != int(s.Size) {
					t.Fatal(c)
				}
			}
			e = Unmap(m, o, 1024)
			if e != api.OK {
				t.Fatal(e)
			}
		}
		if all(m) != before {
			t.Fatal(e)
		}
	}
}
