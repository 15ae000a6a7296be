package reach

import (
	"curtilage/api"
	"curtilage/cpu"
	"curtilage/tagmem"
)

// queue has what was found and not looked at.
type queue[T any] struct{ waiting chan T }

// put waits for ever if there is no room: whoever makes a queue gives it room for all that is put on it.
func (q queue[T]) put(x T) { q.waiting <- x }

// take takes one off, if there is one.
func (q queue[T]) take() (x T, some bool) {
	select {
	case x = <-q.waiting:
		return x, true
	default:
		return x, false
	}
}

// lock is what was found that opens a type: a key for it, and what may be invoked of it as code, and as data.
type lock struct{ key, code, data bool }

// search is for all that a machine may ever reach.
type search struct {
	mem    *tagmem.Mem
	closed []uint64 // granules with tags that were not loaded from
	known  map[api.Cap]struct{}
	found  queue[api.Cap]
	sealed []api.Cap
	locks  map[int]lock
}

func begin(m *cpu.Machine) *search {
	tags := m.Mem.Tags()
	// PC, the registers and the granules have one each, and each of these may be opened once.
	room := 2 * (1 + len(m.Regs) + len(tags))
	return &search{mem: m.Mem, closed: tags, known: map[api.Cap]struct{}{}, found: queue[api.Cap]{make(chan api.Cap, room)}, locks: map[int]lock{}}
}

// add puts c on what was found, if it is one, and new.
func (s *search) add(c api.Cap) {
	if _, old := s.known[c]; old || !c.Tag {
		return
	}
	s.known[c] = struct{}{}
	s.found.put(c)
}

// visit adds all that c gives, with what was found ahead of it.
func (s *search) visit(c api.Cap) {
	if c.Type < 0 {
		s.load(c)
		s.unlock(c)
		return
	}
	s.sealed = append(s.sealed, c)
	s.pair(c)
	s.unseal(c)
}

// unseal adds open of c, if what was found opens that.
func (s *search) unseal(c api.Cap) {
	l := s.locks[c.Type]
	if l.key || l.code && l.data && c.Perms&api.MayInvoke != 0 {
		s.add(open(c))
	}
}

// note notes what opens a type, and, if that is news, opens what was found of it.
func (s *search) note(typ int, l lock) {
	if s.locks[typ] == l {
		return
	}
	s.locks[typ] = l
	for _, c := range s.sealed {
		if c.Type == typ {
			s.unseal(c)
		}
	}
}

// load adds what stands where c may take it from.
func (s *search) load(c api.Cap) {
	const perms = api.MayLoad | api.MayTake
	var rest []uint64
	for _, at := range s.closed {
		if !May([]api.Cap{c}, at, api.Granule, perms) {
			rest = append(rest, at)
			continue
		}
		if x, e := s.mem.LoadCap(at); e == api.OK {
			s.add(x)
		}
	}
	s.closed = rest
}

// unlock notes for which types c is a key.
func (s *search) unlock(c api.Cap) {
	if c.Perms&(api.MaySeal|api.MayUnseal) == 0 {
		return
	}
	for typ := c.Base; typ < min(c.Top, api.MaxTypes); typ++ {
		l := s.locks[int(typ)]
		l.key = true
		s.note(int(typ), l)
	}
}

// pair notes what c may be invoked as.
func (s *search) pair(c api.Cap) {
	if c.Perms&api.MayInvoke == 0 {
		return
	}
	l := s.locks[c.Type]
	if c.Perms&api.MayRun != 0 {
		l.code = true
	} else {
		l.data = true
	}
	s.note(c.Type, l)
}
