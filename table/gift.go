package table

import (
	"curtilage/api"
	"curtilage/cap"
)

// gift is what a slot gets: its capabilities, the first one of which it gets always.
type gift interface {
	caps() []api.Cap
}

// nothing is the gift of no definition.
type nothing struct{}

func (nothing) caps() []api.Cap { return []api.Cap{cap.Null()} }

// symbol is one of an object that lies somewhere.
type symbol struct {
	object api.Object
	base   uint64
	sym    int
}

// data is the gift of data.
type data struct{ symbol }

func (d data) caps() []api.Cap { return []api.Cap{Data(d.object, d.base, d.sym)} }

// function is the gift of a function, with its library's type.
type function struct {
	symbol
	typ int
}

func (f function) caps() []api.Cap {
	code, own := Entry(f.object, f.base, f.sym, f.typ)
	return []api.Cap{code, own}
}

// definition is the gift of what a link is bound to.
func definition(l []api.Object, bases []uint64, types []int, x api.Link) gift {
	if x.To < 0 || x.To >= min(len(l), len(bases), len(types)) || !has(l[x.To], x.Sym) {
		return nothing{}
	}
	s := symbol{object: l[x.To], base: bases[x.To], sym: x.Sym}
	if s.object.Symbols[s.sym].Kind == api.SymFunc {
		return function{symbol: s, typ: types[x.To]}
	}
	return data{s}
}
