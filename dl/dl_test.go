package dl

import (
	"math"
	"math/rand"
	"reflect"
	"slices"
	"strconv"
	"strings"
	"testing"

	"curtilage/api"
	"curtilage/graph"
)

// objects are written `a: b c`, each with what it needs.
func objects(lines ...string) []api.Object {
	var l []api.Object
	for _, line := range lines {
		name, needs, _ := strings.Cut(line, ":")
		l = append(l, api.Object{Name: name, Needed: strings.Fields(needs)})
	}
	return l
}

func sample() []api.Object { return objects("a: b", "b", "c: b d", "d", "e: x", "f: g", "g: f") }

func state(loaded, open []int) State { return State{Loaded: loaded, Open: open} }

func same(s, x State) bool {
	return slices.Equal(s.Loaded, x.Loaded) && slices.Equal(s.Open, x.Open)
}

func TestU1Begun(t *testing.T) {
	for root, want := range map[string]State{"a": state([]int{1, 0}, []int{0}), "c": state([]int{1, 3, 2}, []int{2}), "f": state([]int{6, 5}, []int{5}), "d": state([]int{3}, []int{3})} {
		if s, e := Begun(sample(), root); !same(s, want) || e != api.OK {
			t.Errorf("%s: %v, %d", root, s, e)
		}
	}
	for _, root := range []string{"e", "x", ""} {
		if s, e := Begun(sample(), root); !reflect.DeepEqual(s, State{}) || e != api.ErrMissing {
			t.Errorf("%s: %v, %d", root, s, e)
		}
	}
}

func TestU2Open(t *testing.T) {
	a := state([]int{1, 0}, []int{0})
	for i, x := range []struct {
		s     State
		name  string
		next  State
		begin []int
		e     api.Errno
	}{
		{a, "c", state([]int{1, 0, 3, 2}, []int{0, 2}), []int{3, 2}, api.OK}, {a, "b", state([]int{1, 0}, []int{0, 1}), nil, api.OK}, {a, "a", state([]int{1, 0}, []int{0, 0}), nil, api.OK}, {a, "f", state([]int{1, 0, 6, 5}, []int{0, 5}), []int{6, 5}, api.OK},
		{a, "e", a, nil, api.ErrMissing}, {a, "x", a, nil, api.ErrMissing}, {state([]int{1, 0, 3}, []int{0, 3, 1, 3}), "c", state([]int{1, 0, 3, 2}, []int{0, 3, 1, 3, 2}), []int{2}, api.OK},
	} {
		if next, begin, e := Open(sample(), x.s, x.name); !same(next, x.next) || !slices.Equal(begin, x.begin) || e != x.e {
			t.Errorf("%d: %v, %v, %d", i, next, begin, e)
		}
	}
}

func TestU3Close(t *testing.T) {
	for i, x := range []struct {
		s    State
		name string
		next State
		end  []int
		e    api.Errno
	}{
		{state([]int{1, 0, 3, 2}, []int{0, 2}), "c", state([]int{1, 0}, []int{0}), []int{2, 3}, api.OK}, {state([]int{1, 0, 3, 2}, []int{0, 2, 2}), "c", state([]int{1, 0, 3, 2}, []int{0, 2}), nil, api.OK},
		{state([]int{1, 0, 3, 2}, []int{0, 2, 3}), "c", state([]int{1, 0, 3}, []int{0, 3}), []int{2}, api.OK}, {state([]int{1, 0, 3, 2}, []int{0, 2, 3}), "d", state([]int{1, 0, 3, 2}, []int{0, 2}), nil, api.OK},
		{state([]int{1, 0}, []int{0, 1}), "b", state([]int{1, 0}, []int{0}), nil, api.OK}, {state([]int{1, 0}, []int{0, 0}), "a", state([]int{1, 0}, []int{0}), nil, api.OK}, {state([]int{1, 0}, []int{0}), "a", state([]int{1, 0}, []int{0}), nil, api.ErrHandle},
		{state([]int{1, 0}, []int{0}), "b", state([]int{1, 0}, []int{0}), nil, api.ErrHandle}, {state([]int{1, 0}, []int{0}), "x", state([]int{1, 0}, []int{0}), nil, api.ErrHandle}, {state([]int{1, 0, 6, 5}, []int{0, 5}), "f", state([]int{1, 0}, []int{0}), []int{5, 6}, api.OK},
		{state([]int{1, 0, 6, 5, 3}, []int{0, 5, 3, 1, 5}), "f", state([]int{1, 0, 6, 5, 3}, []int{0, 5, 3, 1}), nil, api.OK}, {state([]int{1, 0, 6, 5, 3, 2}, []int{0, 5, 2}), "f", state([]int{1, 0, 3, 2}, []int{0, 2}), []int{5, 6}, api.OK},
	} {
		if next, end, e := Close(sample(), x.s, x.name); !same(next, x.next) || !slices.Equal(end, x.end) || e != x.e {
			t.Errorf("%d: %v, %v, %d", i, next, end, e)
		}
	}
}

func TestNothingIsShared(t *testing.T) {
	s := state(slices.Grow([]int{1, 0}, 9), slices.Grow([]int{0, 3}, 9))
	before := state(slices.Clone(s.Loaded), slices.Clone(s.Open))
	next, begin, _ := Open(sample(), s, "c")
	for _, l := range [][]int{next.Loaded, next.Open} {
		clear(l)
	}
	if !same(s, before) || !slices.Equal(begin, []int{3, 2}) {
		t.Error(s, begin)
	}
	next, _, _ = Open(sample(), s, "x")
	next.Loaded[0], next.Open[0] = 9, 9
	next, end, _ := Close(sample(), s, "d")
	next.Loaded, next.Open = append(next.Loaded[:0], 9, 9), append(next.Open[:0], 9, 9)
	if !same(s, before) || len(end) != 0 {
		t.Error(s, end)
	}
	next, _, _ = Close(sample(), s, "x")
	next.Loaded[0], next.Open[0] = 9, 9
	if !same(s, before) {
		t.Error(s)
	}
}

func TestU4Scope(t *testing.T) {
	for i, x := range []struct {
		open, want []int
	}{
		{[]int{0}, []int{0, 1}}, {[]int{0, 2}, []int{0, 1, 2, 3}}, {[]int{0, 3, 2, 3}, []int{0, 1, 3, 2}}, {[]int{2, 0}, []int{2, 1, 3, 0}}, {[]int{3, 3}, []int{3}}, {nil, nil}, {[]int{-1, 99, 7, 3}, []int{3}},
	} {
		if g := Scope(sample(), State{Open: x.open}); !slices.Equal(g, x.want) {
			t.Errorf("%d: %v", i, g)
		}
	}
}

func TestU4Count(t *testing.T) {
	for obj, want := range map[int]int{0: 1, 3: 2, 5: 0, -1: 0, math.MaxInt: 0} {
		if g := Count(State{Loaded: []int{5, 5, 5}, Open: []int{0, 3, 3}}, obj); g != want {
			t.Errorf("%d: %d", obj, g)
		}
	}
}

func TestStatesOfNothing(t *testing.T) {
	if next, end, e := Close(sample(), State{}, "a"); len(next.Loaded)+len(next.Open)+len(end) != 0 || e != api.ErrHandle {
		t.Error(next, end, e)
	}
	if next, begin, e := Open(sample(), State{}, "d"); !same(next, state([]int{3}, []int{3})) || !slices.Equal(begin, []int{3}) || e != api.OK {
		t.Error(next, begin, e)
	}
}

func TestU5AllThatIsNeededIsLoaded(t *testing.T) {
	r := rand.New(rand.NewSource(22))
	for i := range 300 {
		var l []api.Object
		for j := range 8 {
			o := api.Object{Name: strconv.Itoa(j)}
			for range r.Intn(3) {
				if k := r.Intn(8); i%2 == 0 || k > j {
					o.Needed = append(o.Needed, strconv.Itoa(k))
				}
			}
			l = append(l, o)
		}
		s, e := Begun(l, "0")
		if e != api.OK {
			t.Fatal(e)
		}
		for range 30 {
			name, next := strconv.Itoa(r.Intn(9)), State{}
			var moved []int
			if r.Intn(2) == 0 {
				next, moved, e = Open(l, s, name)
				if e == api.OK && !slices.Equal(next.Loaded, append(slices.Clone(s.Loaded), moved...)) {
					t.Fatal(s, next, moved)
				}
			} else {
				next, moved, e = Close(l, s, name)
				kept := slices.DeleteFunc(slices.Clone(s.Loaded), func(i int) bool { return slices.Contains(moved, i) })
				places := slices.Clone(moved)
				slices.Reverse(places)
				rising := slices.IsSortedFunc(places, func(a, b int) int { return slices.Index(s.Loaded, a) - slices.Index(s.Loaded, b) })
				if e == api.OK && (!slices.Equal(next.Loaded, kept) || !rising) {
					t.Fatal(s, next, moved)
				}
			}
			if e != api.OK && (!same(next, s) || len(moved) != 0) {
				t.Fatal(s, next, moved, e)
			}
			s = next
			var needed []int
			for _, o := range s.Open {
				needed = append(needed, graph.Reach(l, o)...)
			}
			slices.Sort(needed)
			loaded := slices.Clone(s.Loaded)
			slices.Sort(loaded)
			if !slices.Equal(slices.Compact(needed), loaded) {
				t.Fatal(s)
			}
		}
	}
}
