package system

import (
	"curtilage/api"
	"curtilage/cap"
)

// Registers that a program asks by, and is answered in.
const (
	firstRegister   = 10
	secondRegister  = 11
	serviceRegister = 17
)

// wordSize is how many bytes an instruction has.
const wordSize = 4

// service is what a program may ask, of one of the objects, and of a number.
type service struct {
	number uint64
	do     func(o api.Object, n uint64) ([]api.Cap, api.Errno)
}

// services are all that a program may ask.
func (s *System) services() []service {
	return []service{
		{1, func(o api.Object, _ uint64) ([]api.Cap, api.Errno) {
			_, e := s.Open(o.Name)
			return nil, e
		}},
		{2, func(o api.Object, _ uint64) ([]api.Cap, api.Errno) {
			_, e := s.Close(o.Name)
			return nil, e
		}},
		{3, func(o api.Object, n uint64) ([]api.Cap, api.Errno) {
			if n >= uint64(len(o.Symbols)) {
				return nil, api.ErrArg
			}
			return s.Symbol(o.Name, o.Symbols[n].Name)
		}},
	}
}

// serve does what the program asks, and goes on behind its call; false, if there is no such service.
func (s *System) serve() bool {
	m := s.Machine
	for _, x := range s.services() {
		if x.number == m.Regs[serviceRegister].At {
			s.answer(s.ask(x, m.Regs[firstRegister].At, m.Regs[secondRegister].At))
			m.PC = cap.Move(m.PC, m.PC.At+wordSize)
			return true
		}
	}
	return false
}

// ask does a service, of the object whose place is at.
func (s *System) ask(x service, at, n uint64) ([]api.Cap, api.Errno) {
	if at >= uint64(len(s.Objects)) {
		return nil, api.ErrArg
	}
	return x.do(s.Objects[at], n)
}

// answer puts what a service told into registers.
func (s *System) answer(given []api.Cap, e api.Errno) {
	regs := &s.Machine.Regs
	regs[firstRegister] = cap.Int(uint64(e))
	if len(given) == 0 {
		return
	}
	given = append(given, cap.Null())
	regs[firstRegister], regs[secondRegister] = given[0], given[1]
}
