package celf

import (
	"strings"

	"curtilage/api"
	"curtilage/word"
)

// magic is what an object begins with.
const magic = "CELF\x01"

// reader reads bytes, until something is wrong: from then on it reads nothing.
type reader struct {
	rest  []byte
	wrong api.Errno
}

// take is the next n bytes.
func (r *reader) take(n int) []byte {
	if r.wrong == api.OK && n > len(r.rest) {
		r.wrong = api.ErrShort
	}
	if r.wrong != api.OK {
		return nil
	}
	b := r.rest[:n]
	r.rest = r.rest[n:]
	return b
}

// number is the next number of n bytes.
func (r *reader) number(n int) uint64 { return word.Of(r.take(n)) }

// Widths of numbers.
const (
	small = 1
	half  = 2
	full  = 4
)

func (r *reader) byte() int { return int(r.number(small)) }

func (r *reader) half() int { return int(r.number(half)) }

func (r *reader) full() uint64 { return r.number(full) }

func (r *reader) text() string { return string(r.take(r.byte())) }

// list is the next list, of which each is read by one.
func list[T any](r *reader, one func(r *reader) T) []T {
	var l []T
	for many := r.half(); many > 0 && r.wrong == api.OK; many-- {
		l = append(l, one(r))
	}
	return l
}

func (r *reader) object() api.Object {
	if !strings.HasPrefix(string(r.rest[:min(len(r.rest), len(magic))]), magic) {
		r.wrong = api.ErrMagic
	}
	r.take(len(magic))
	var o api.Object
	o.Name = r.text()
	o.Needed = list(r, (*reader).text)
	o.Segments = list(r, segment)
	o.Symbols = list(r, symbol)
	o.Relocs = list(r, reloc)
	o.Init = list(r, (*reader).half)
	o.Fini = list(r, (*reader).half)
	return o
}

func segment(r *reader) api.Segment {
	s := api.Segment{At: r.full(), Size: r.full(), Flags: r.byte()}
	s.Bytes = append(s.Bytes, r.take(int(r.full()))...)
	return s
}

func symbol(r *reader) api.Symbol {
	s := api.Symbol{Name: r.text(), Version: r.text(), At: r.full(), Size: r.full(), Kind: r.byte(), Bind: r.byte(), Seen: r.byte()}
	defined := r.byte()
	if r.wrong == api.OK && defined > 1 {
		r.wrong = api.ErrSymbol
	}
	s.Defined = defined == 1
	return s
}

func reloc(r *reader) api.Reloc { return api.Reloc{At: r.full(), Sym: r.half()} }
