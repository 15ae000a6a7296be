package lookup

import (
	"slices"
	"sync"

	"curtilage/api"
	"curtilage/hash"
)

// buckets is how many an object's tables have: about as many as an object has symbols.
const buckets = 32

// place is an object of a scope, with its tables, which are made when it is first asked.
type place struct {
	obj     int
	symbols []api.Symbol
	once    sync.Once
	tables  []hash.Table // one of each MaxSymbols symbols, since a table has no room for more
}

// places are those of a scope, in order.
type places []*place

// open is a scope, of which nothing was asked.
func open(l []api.Object, scope []int) places {
	var some places
	for _, i := range scope {
		if i >= 0 && i < len(l) {
			some = append(some, &place{obj: i, symbols: l[i].Symbols})
		}
	}
	return some
}

// find is a name's definition; -1 and -1, if there is none.
func (l places) find(name, version string) (obj, sym int) {
	for _, p := range l {
		if i := p.find(name, version); i >= 0 {
			return p.obj, i
		}
	}
	return -1, -1
}

// knows tells whether there is a definition of a name, of any version.
func (l places) knows(name string) bool {
	obj, _ := l.find(name, "")
	return obj >= 0
}

// find is the number of an object's definition; -1, if there is none.
func (p *place) find(name, version string) int {
	p.once.Do(p.prepare)
	at := 0
	for piece := range slices.Chunk(p.symbols, api.MaxSymbols) {
		if i := hash.Find(p.tables[at/api.MaxSymbols], piece, name, version); i >= 0 {
			return at + i
		}
		at += len(piece)
	}
	return -1
}

// prepare makes the tables.
func (p *place) prepare() {
	for piece := range slices.Chunk(p.symbols, api.MaxSymbols) {
		t, _ := hash.Make(piece, buckets) // there is none that has too many
		p.tables = append(p.tables, t)
	}
}
