package celf

import (
	"slices"

	"curtilage/api"
)

// maxName is how many bytes a name has at most.
const maxName = 30

// Check tells what is wrong with one.
func Check(o api.Object) api.Errno {
	switch {
	case !namesFit(o):
		return api.ErrName
	case !countsFit(o):
		return api.ErrMany
	case !segmentsFit(o.Segments):
		return api.ErrSegment
	case !all(o.Symbols, func(s api.Symbol) bool { return symbolFits(o, s) }):
		return api.ErrSymbol
	case !relocsFit(o):
		return api.ErrReloc
	case !all(o.Init, func(n int) bool { return isFunction(o, n) }), !all(o.Fini, func(n int) bool { return isFunction(o, n) }):
		return api.ErrList
	}
	return api.OK
}

// all tells whether each of l fits.
func all[T any](l []T, fits func(x T) bool) bool {
	return !slices.ContainsFunc(l, func(x T) bool { return !fits(x) })
}

func namesFit(o api.Object) bool {
	if !isName(o.Name) {
		return false
	}
	for i, n := range o.Needed {
		if !isName(n) || n == o.Name || slices.Contains(o.Needed[:i], n) {
			return false
		}
	}
	return true
}

func isName(s string) bool {
	for i := range len(s) {
		c := s[i]
		letter := c >= 'a' && c <= 'z' || c >= 'A' && c <= 'Z'
		digit := c >= '0' && c <= '9'
		if !letter && !digit && c != '_' && c != '.' && c != '-' {
			return false
		}
	}
	return len(s) >= 1 && len(s) <= maxName
}

func countsFit(o api.Object) bool {
	return len(o.Needed) <= api.MaxNeeded && len(o.Segments) <= api.MaxSegments && len(o.Symbols) <= api.MaxSymbols &&
		len(o.Relocs) <= api.MaxRelocs && len(o.Init) <= api.MaxLists && len(o.Fini) <= api.MaxLists
}

func segmentsFit(l []api.Segment) bool {
	free := uint64(0) // where the next page begins that none has
	for _, s := range l {
		if s.At%api.Page != 0 || s.At < free || s.At > api.MaxEnd {
			return false
		}
		if s.Size < 1 || s.Size > api.MaxSize || s.At+s.Size > api.MaxEnd || uint64(len(s.Bytes)) > s.Size {
			return false
		}
		if s.Flags < 1 || s.Flags > api.FlagRead|api.FlagWrite|api.FlagRun || s.Flags&api.FlagWrite != 0 && s.Flags&api.FlagRun != 0 {
			return false
		}
		free = (s.At + s.Size + api.Page - 1) / api.Page * api.Page
	}
	return true
}

func symbolFits(o api.Object, s api.Symbol) bool {
	if !isName(s.Name) || s.Version != "" && !isName(s.Version) {
		return false
	}
	if s.Kind < api.SymFunc || s.Kind > api.SymData || s.Bind < api.BindLocal || s.Bind > api.BindWeak || s.Seen < api.SeenAll || s.Seen > api.SeenOwn {
		return false
	}
	if !s.Defined {
		return s.At == 0 && s.Size == 0 && s.Bind != api.BindLocal && s.Seen != api.SeenOwn
	}
	i := At(o, s.At, s.Size)
	if i < 0 {
		return false
	}
	runs := o.Segments[i].Flags&api.FlagRun != 0
	if s.Kind == api.SymFunc {
		return runs && s.At%4 == 0 && s.Size > 0
	}
	return !runs
}

func relocsFit(o api.Object) bool {
	free := uint64(0) // behind the bytes of the one ahead
	for _, r := range o.Relocs {
		if r.At%api.Granule != 0 || r.Sym < 0 || r.Sym >= len(o.Symbols) {
			return false
		}
		n := uint64(api.Granule)
		if o.Symbols[r.Sym].Kind == api.SymFunc {
			n = 2 * api.Granule
		}
		if r.At < free || !writable(o, r.At, n) {
			return false
		}
		free = r.At + n
	}
	return true
}

// writable tells whether a segment that may be written has the n bytes from at on.
func writable(o api.Object, at, n uint64) bool {
	return slices.ContainsFunc(o.Segments, func(s api.Segment) bool { return s.Flags&api.FlagWrite != 0 && has(s, at, n) })
}

func isFunction(o api.Object, n int) bool {
	return n >= 0 && n < len(o.Symbols) && o.Symbols[n].Defined && o.Symbols[n].Kind == api.SymFunc
}
