package system

import (
	"slices"

	"curtilage/api"
	"curtilage/dl"
	"curtilage/image"
	"curtilage/layout"
	"curtilage/plan"
	"curtilage/table"
	"curtilage/tagmem"
)

// The bounds of libraries.
const (
	firstByte = 4096
	lastByte  = 49152
	firstType = 8
)

// opening is what becomes of a system's lists when libraries begin; till all is done, the system's own stay as they are.
type opening struct {
	*System
	bases  []uint64
	types  []int
	places []layout.Place // those of libraries that are loaded, or were given one just now
	given  []int          // their types
}

// mem is the memory; nil, if there is no machine.
func (s *System) mem() *tagmem.Mem {
	if s.Machine == nil {
		return nil
	}
	return s.Machine.Mem
}

func (s *System) begin() *opening {
	o := &opening{System: s, bases: slices.Clone(s.Bases), types: slices.Clone(s.Types)}
	for _, i := range s.State.Loaded {
		o.places = append(o.places, layout.Place{Base: s.Bases[i], Size: layout.Size(s.Objects[i])})
		o.given = append(o.given, s.Types[i])
	}
	return o
}

// add lays what begins, and binds it, with the names that the next state knows.
func (o *opening) add(next dl.State, begin []int) api.Errno {
	for _, i := range begin {
		if e := o.give(i); e != api.OK {
			return e
		}
	}
	links, _, e := plan.Link(o.Objects, dl.Scope(o.Objects, next), begin)
	if e != api.OK {
		return e
	}
	return o.lay(begin, links)
}

// give gives an object its place, and its type.
func (o *opening) give(i int) api.Errno {
	p, ok := o.room(layout.Size(o.Objects[i]))
	if !ok {
		return api.ErrAddress
	}
	typ, ok := o.leastType()
	if !ok {
		return api.ErrTypes
	}
	o.bases[i], o.types[i] = p.Base, typ
	o.places, o.given = append(o.places, p), append(o.given, typ)
	return api.OK
}

// room is the first place of so many bytes that are nobody's.
func (o *opening) room(size uint64) (p layout.Place, ok bool) {
	for base := uint64(firstByte); base+size <= lastByte; base += api.Page {
		p := layout.Place{Base: base, Size: size}
		taken := func(x layout.Place) bool { return !layout.Apart([]layout.Place{x, p}) }
		if !slices.ContainsFunc(o.places, taken) {
			return p, true
		}
	}
	return layout.Place{}, false
}

// leastType is the least one that is nobody's.
func (o *opening) leastType() (typ int, ok bool) {
	for typ := firstType; typ < api.MaxTypes; typ++ {
		if !slices.Contains(o.given, typ) {
			return typ, true
		}
	}
	return 0, false
}

// lay lays what begins, and its links; where that can't be, nothing of it stays.
func (o *opening) lay(begin []int, links []api.Link) api.Errno {
	for n, i := range begin {
		if e := image.Map(o.mem(), o.Objects[i], o.bases[i]); e != api.OK {
			o.takeOut(begin[:n])
			return e
		}
	}
	e := table.Fill(o.mem(), o.Objects, o.bases, o.types, links)
	if e != api.OK {
		o.takeOut(begin)
	}
	return e
}

func (o *opening) takeOut(laid []int) {
	for _, i := range laid {
		image.Unmap(o.mem(), o.Objects[i], o.bases[i])
	}
}
