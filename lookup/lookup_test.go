package lookup

import (
	"math"
	"math/rand"
	"slices"
	"strconv"
	"strings"
	"testing"

	"curtilage/api"
)

// symbol is written `f`, or with its version `f@v1`, and ahead of it `-` (not defined), `~` (weak), `!` (local), `.` (seen by its own).
func symbol(text string) api.Symbol {
	s := api.Symbol{Kind: api.SymFunc, Bind: api.BindOuter, Seen: api.SeenAll, Defined: true}
	for {
		switch text[0] {
		case '-':
			s.Defined = false
		case '~':
			s.Bind = api.BindWeak
		case '!':
			s.Bind = api.BindLocal
		case '.':
			s.Seen = api.SeenOwn
		default:
			s.Name, s.Version, _ = strings.Cut(text, "@")
			return s
		}
		text = text[1:]
	}
}

// objects are written as their symbols.
func objects(lines ...string) []api.Object {
	var l []api.Object
	for i, line := range lines {
		o := api.Object{Name: "lib" + strconv.Itoa(i)}
		for _, text := range strings.Fields(line) {
			o.Symbols = append(o.Symbols, symbol(text))
		}
		l = append(l, o)
	}
	return l
}

func TestN1In(t *testing.T) {
	l := objects("f !h", "-f f@v1 g", "g@v2 g@v1 f@v2 ~w .o f@v2", "f@v2")
	for i, x := range []struct {
		scope         []int
		name, version string
		obj, sym      int
	}{
		{[]int{0, 1, 2, 3}, "f", "", 0, 0}, {[]int{0, 1}, "g", "", 1, 2}, {[]int{0, 1, 2}, "h", "", -1, -1}, {[]int{1, 0}, "f", "", 1, 1}, {[]int{0, 1, 2, 3}, "f", "v2", 2, 2}, {[]int{3, 2}, "f", "v2", 3, 0},
		{[]int{0, 1, 2}, "f", "v3", -1, -1}, {[]int{2, 1}, "g", "", 2, 0}, {[]int{2, 1}, "g", "v1", 2, 1}, {[]int{1}, "g", "v1", -1, -1}, {[]int{2}, "w", "", 2, 3}, {[]int{2}, "o", "", -1, -1},
		{nil, "f", "", -1, -1}, {[]int{0}, "", "", -1, -1}, {[]int{0, 0, 0}, "f", "", 0, 0}, {[]int{-1, 9, math.MaxInt, math.MinInt, 3}, "f", "", 3, 0},
	} {
		if obj, sym := In(l, x.scope, x.name, x.version); obj != x.obj || sym != x.sym {
			t.Errorf("%d: %d, %d", i, obj, sym)
		}
	}
}

func TestN1InManySymbols(t *testing.T) {
	line := ""
	for i := range 130 {
		line += " s" + strconv.Itoa(i%100) + "@v" + strconv.Itoa(i/100)
	}
	l := objects("", line)
	for i := range 130 {
		if obj, sym := In(l, []int{0, 1}, "s"+strconv.Itoa(i%100), "v"+strconv.Itoa(i/100)); obj != 1 || sym != i {
			t.Fatal(i, obj, sym)
		}
		if obj, sym := In(l, []int{0, 1}, "s"+strconv.Itoa(i%100), ""); obj != 1 || sym != i%100 {
			t.Fatal(i, obj, sym)
		}
	}
}

func TestN1Known(t *testing.T) {
	l := objects("f@v1 !h -x", "g .o")
	for name, want := range map[string]bool{"f": true, "g": true, "h": false, "x": false, "o": false, "": false} {
		if Known(l, []int{0, 1}, name) != want {
			t.Error(name)
		}
	}
	if Known(l, []int{1}, "f") || Known(l, nil, "f") || Known(nil, []int{0}, "f") {
		t.Error("of another scope")
	}
}

func TestN1All(t *testing.T) {
	l := objects("f@v1 z !h -x f@v2", "a .o Z f", "q")
	for i, x := range []struct {
		scope []int
		want  []string
	}{{[]int{0, 1}, []string{"Z", "a", "f", "z"}}, {[]int{0}, []string{"f", "z"}}, {[]int{2, 0, 2}, []string{"f", "q", "z"}}, {nil, nil}, {[]int{-1, 3}, nil}} {
		if g := All(l, x.scope); !slices.Equal(g, x.want) {
			t.Errorf("%d: %v", i, g)
		}
	}
}

func TestN2Bind(t *testing.T) {
	for i, x := range []struct {
		l         []api.Object
		scope     []int
		obj, sym  int
		to, which int
		e         api.Errno
	}{
		{objects("-f", "f"), []int{0, 1}, 0, 0, 1, 0, api.OK}, {objects("f", "f"), []int{1, 0}, 0, 0, 1, 0, api.OK}, {objects("f", "f"), []int{0, 1}, 1, 0, 0, 0, api.OK},
		{objects("!f", "f"), []int{1, 0}, 0, 0, 0, 0, api.OK}, {objects(".f", "f"), []int{1, 0}, 0, 0, 0, 0, api.OK}, {objects("~.f", "f"), []int{1, 0}, 0, 0, 0, 0, api.OK}, {objects("~f", "f"), []int{1, 0}, 0, 0, 1, 0, api.OK},
		{objects("f"), nil, 0, 0, 0, 0, api.OK}, {objects("~f"), nil, 0, 0, 0, 0, api.OK}, {objects("f@v1", "f@v2"), []int{1}, 0, 0, 0, 0, api.OK}, {objects("f@v1", "f@v2 f@v1"), []int{1, 0}, 0, 0, 1, 1, api.OK},
		{objects("f f"), []int{0}, 0, 1, 0, 0, api.OK}, {objects("~-f", "g"), []int{0, 1}, 0, 0, -1, -1, api.OK}, {objects("~-f@v2", "f@v1"), []int{0, 1}, 0, 0, -1, -1, api.OK}, {objects("~-f", "f"), []int{0, 1}, 0, 0, 1, 0, api.OK},
		{objects("-f@v2", "f@v1"), []int{0, 1}, 0, 0, 0, 0, api.ErrVersion}, {objects("-f@v2", "f"), []int{0, 1}, 0, 0, 0, 0, api.ErrVersion}, {objects("-f@v2", "!f@v2"), []int{0, 1}, 0, 0, 0, 0, api.ErrUndefined},
		{objects("-f@v2", "g"), []int{0, 1}, 0, 0, 0, 0, api.ErrUndefined}, {objects("-f", "g"), []int{0, 1}, 0, 0, 0, 0, api.ErrUndefined}, {objects("!f", "-f"), []int{0, 1}, 1, 0, 0, 0, api.ErrUndefined},
		{objects("-f", "f"), []int{0}, 0, 0, 0, 0, api.ErrUndefined}, {objects("-f", "-f f@v9"), []int{0, 1}, 0, 0, 1, 1, api.OK},
		{objects("f"), []int{0}, 1, 0, 0, 0, api.ErrArg}, {objects("f"), []int{0}, 0, 1, 0, 0, api.ErrArg}, {objects("f"), []int{0}, -1, -1, 0, 0, api.ErrArg},
	} {
		if to, which, e := Bind(x.l, x.scope, x.obj, x.sym); to != x.to || which != x.which || e != x.e {
			t.Errorf("%d: %d, %d, %d", i, to, which, e)
		}
	}
}

func TestN3OneMoreBehind(t *testing.T) {
	r := rand.New(rand.NewSource(17))
	for range 3000 {
		var lines []string
		for range 5 {
			line := ""
			for range r.Intn(4) {
				line += " " + []string{"", "-", "~", "!", "."}[r.Intn(5)] + []string{"f", "g", "h"}[r.Intn(3)] + []string{"", "@v1", "@v2"}[r.Intn(3)]
			}
			lines = append(lines, line)
		}
		l := objects(lines...)
		for _, name := range []string{"f", "g", "h"} {
			for _, version := range []string{"", "v1", "v2"} {
				obj, sym := In(l, []int{0, 1, 2}, name, version)
				more, which := In(l, []int{0, 1, 2, 3}, name, version)
				if obj >= 0 && (obj != more || sym != which) || obj < 0 && more >= 0 && more != 3 {
					t.Fatal(lines, name, version)
				}
				if more >= 0 {
					if s := l[more].Symbols[which]; s.Bind == api.BindLocal || s.Seen == api.SeenOwn || !s.Defined {
						t.Fatal(lines, name, version)
					}
				}
			}
		}
	}
}
