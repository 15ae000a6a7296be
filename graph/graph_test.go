package graph

import (
	"math"
	"math/rand"
	"slices"
	"strconv"
	"strings"
	"testing"

	"curtilage/api"
)

// objects are written `a: b c`, each with what it needs.
func objects(lines ...string) []api.Object {
	var l []api.Object
	for _, line := range lines {
		name, needs, _ := strings.Cut(line, ":")
		l = append(l, api.Object{Name: name, Needed: strings.Fields(needs)})
	}
	return l
}

func TestFind(t *testing.T) {
	l := objects("a", "b", "a", "")
	for name, want := range map[string]int{"a": 0, "b": 1, "c": -1, "": 3, "A": -1} {
		if g := Find(l, name); g != want {
			t.Errorf("%q: %d", name, g)
		}
	}
	if Find(nil, "a") != -1 {
		t.Error("nothing has a name")
	}
}

func TestM1Closure(t *testing.T) {
	for i, x := range []struct {
		l       []api.Object
		root    string
		order   []int
		missing string
	}{
		{objects("a: b c", "b: d", "c: d", "d"), "a", []int{0, 1, 2, 3}, ""}, {objects("d", "c: d", "b: d", "a: b c"), "a", []int{3, 2, 1, 0}, ""}, {objects("a: b c", "b: d", "c: d", "d"), "c", []int{2, 3}, ""},
		{objects("a: b c", "b: e", "c: d", "d", "e"), "a", []int{0, 1, 2, 4, 3}, ""}, {objects("a: b", "b: a"), "b", []int{1, 0}, ""}, {objects("a: a b b", "b"), "a", []int{0, 1}, ""},
		{objects("a"), "a", []int{0}, ""}, {objects("a: b", "b: c", "b: d", "c"), "a", []int{0, 1, 3}, ""}, {objects("a: x"), "a", nil, "x"}, {objects("a: x"), "y", nil, "y"}, {objects(), "y", nil, "y"}, {objects("a"), "", nil, ""},
		{objects("a: b c", "b: x", "c: y"), "a", nil, "x"}, {objects("a: b y", "b: x"), "a", nil, "y"}, {objects("a: b", "b", "c: x"), "a", []int{0, 1}, ""},
	} {
		order, missing, e := Closure(x.l, x.root)
		want := api.OK
		if x.order == nil {
			want = api.ErrMissing
		}
		if !slices.Equal(order, x.order) || missing != x.missing || e != want {
			t.Errorf("%d: %v, %q, %d", i, order, missing, e)
		}
	}
}

func TestM2BeginAndEnd(t *testing.T) {
	for i, x := range []struct {
		l           []api.Object
		order, want []int
	}{
		{objects("a: b c", "b: d", "c: d", "d"), []int{0, 1, 2, 3}, []int{3, 1, 2, 0}}, {objects("a: b c", "b: d", "c: d", "d"), []int{0, 1, 2}, []int{1, 2, 0}}, {objects("a: b c", "b: d", "c: d", "d"), []int{0, 2, 3}, []int{3, 2, 0}},
		{objects("a: b", "b: a"), []int{0, 1}, []int{1, 0}}, {objects("a: b", "b: a"), []int{1, 0}, []int{0, 1}}, {objects("a", "b", "c"), []int{2, 0, 1}, []int{2, 0, 1}}, {objects("a: a x", "b"), []int{1, 0}, []int{1, 0}},
		{objects("a: b c", "b: c", "c: b"), []int{0, 1, 2}, []int{2, 1, 0}}, {objects("a: c b", "b", "c"), []int{0, 1, 2}, []int{2, 1, 0}}, {objects("a: b", "b: c", "c"), []int{0, 2}, []int{0, 2}}, {objects("a"), nil, nil}, {nil, []int{}, nil},
	} {
		if g := Begin(x.l, x.order); !slices.Equal(g, x.want) {
			t.Errorf("%d: %v, not %v", i, g, x.want)
		}
		g := End(x.l, x.order)
		slices.Reverse(g)
		if !slices.Equal(g, x.want) {
			t.Errorf("%d: ends %v, from behind", i, g)
		}
	}
	odd := []int{-1, 1, 5, 0, math.MinInt, math.MaxInt, 0}
	if g := Begin(objects("a"), odd); !slices.Equal(g, []int{0}) {
		t.Error(g)
	}
}

func TestM3Reach(t *testing.T) {
	l := objects("c: d x", "a: b c", "d: c", "b: y", "e: a")
	for from, want := range map[int][]int{0: {0, 2}, 1: {0, 1, 2, 3}, 2: {0, 2}, 3: {3}, 4: {0, 1, 2, 3, 4}, -1: nil, 5: nil, math.MinInt: nil, math.MaxInt: nil} {
		if g := Reach(l, from); !slices.Equal(g, want) {
			t.Errorf("%d: %v, not %v", from, g, want)
		}
	}
	twice := objects("a: b", "b", "b: c", "c")
	if g := Reach(twice, 0); !slices.Equal(g, []int{0, 1}) {
		t.Error(g)
	}
	if g := Reach(twice, 2); !slices.Equal(g, []int{2, 3}) {
		t.Error(g)
	}
}

// anyObjects need some of each other; if they rise, only those behind.
func anyObjects(r *rand.Rand, n int, rising bool) []api.Object {
	var l []api.Object
	for i := range n {
		o := api.Object{Name: strconv.Itoa(i)}
		for range r.Intn(4) {
			j := r.Intn(n)
			if rising && j <= i {
				continue
			}
			o.Needed = append(o.Needed, strconv.Itoa(j))
		}
		l = append(l, o)
	}
	return l
}

func TestM4ClosureIsWhatIsReached(t *testing.T) {
	r := rand.New(rand.NewSource(16))
	for i := range 2000 {
		l := anyObjects(r, 1+r.Intn(12), i%2 == 0)
		order, _, e := Closure(l, "0")
		sorted := slices.Clone(order)
		slices.Sort(sorted)
		if e != api.OK || order[0] != 0 || !slices.Equal(sorted, Reach(l, 0)) {
			t.Fatal(l, order, e)
		}
		begun := Begin(l, order)
		all := slices.Clone(begun)
		slices.Sort(all)
		if !slices.Equal(all, sorted) {
			t.Fatal(l, begun)
		}
		if i%2 == 1 {
			continue
		}
		for _, o := range order {
			for _, needed := range Reach(l, o) {
				if needed != o && slices.Index(begun, needed) > slices.Index(begun, o) {
					t.Fatal(l, begun)
				}
			}
		}
	}
}

func TestLongChain(t *testing.T) {
	const many = 1 << 15
	var l []api.Object
	for i := range many {
		l = append(l, api.Object{Name: strconv.Itoa(i), Needed: []string{strconv.Itoa((i + 1) % many)}})
	}
	order, _, e := Closure(l, "0")
	if begun := Begin(l, order); e != api.OK || len(begun) != many || begun[0] != many-1 || begun[many-1] != 0 || len(Reach(l, 7)) != many {
		t.Error(len(order), e)
	}
}
