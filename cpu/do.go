package cpu

import (
	"curtilage/alu"
	"curtilage/api"
	"curtilage/cap"
	"curtilage/isa"
	"curtilage/word"
)

// invoked is the register that gets the data of what is invoked.
const invoked = 31

// do does an instruction, and answers where PC is behind it.
func (m *Machine) do(x api.Inst) (api.Cap, api.Errno) {
	next := m.ahead(wordSize)
	switch isa.Kind(x.Op) {
	case api.KindR, api.KindI:
		m.write(x.Rd, m.reckon(x))
	case api.KindOne:
		m.write(x.Rd, m.ask(x))
	case api.KindLoad:
		return m.loadOrJump(x, next)
	case api.KindSave:
		return next, m.save(x)
	case api.KindIf:
		if holds, _ := alu.Holds(x.Op, m.read(x.Rs1).At, m.read(x.Rs2).At); holds {
			return m.ahead(uint64(x.Imm)), api.OK
		}
	case api.KindHigh:
		m.write(x.Rd, m.high(x))
	case api.KindJump:
		m.write(x.Rd, next)
		return m.ahead(uint64(x.Imm)), api.OK
	case api.KindTwo:
		return m.invoke(m.read(x.Rs1), m.read(x.Rs2))
	case api.KindNone:
		return api.Cap{}, stopped(x)
	}
	return next, api.OK
}

// ahead is PC, n bytes further.
func (m *Machine) ahead(n uint64) api.Cap { return cap.Move(m.PC, m.PC.At+n) }

// stopped is the error that an instruction without operands is.
func stopped(x api.Inst) api.Errno {
	if isa.Name(x.Op) == "ecall" {
		return api.ErrCall
	}
	return api.ErrBreak
}

// high is what an instruction of kind High makes.
func (m *Machine) high(x api.Inst) api.Cap {
	if isa.Name(x.Op) == "auipcc" {
		return m.ahead(uint64(x.Imm))
	}
	return cap.Int(uint64(x.Imm))
}

// reckon is what an instruction makes of two registers, or of one and its Imm.
func (m *Machine) reckon(x api.Inst) api.Cap {
	r1, r2 := m.read(x.Rs1), m.read(x.Rs2)
	n := r2.At
	if isa.Kind(x.Op) == api.KindI {
		n = uint64(x.Imm)
	}
	if w, ok := alu.Reckon(x.Op, r1.At, n); ok {
		return cap.Int(w)
	}
	switch isa.Name(x.Op) {
	case "csetbounds":
		return cap.Bound(r1, n)
	case "candperm":
		return cap.And(r1, int(word.Bits(n, 0, 8)))
	case "cseal":
		return cap.Seal(r1, r2)
	case "cunseal":
		return cap.Unseal(r1, r2)
	case "csetaddr":
		return cap.Move(r1, n)
	case "cincaddr":
		return cap.Move(r1, r1.At+n)
	}
	return flag(r1.Tag == r2.Tag && cap.Within(r2, r1)) // ctestsubset
}

// ask is what an instruction makes of one register.
func (m *Machine) ask(x api.Inst) api.Cap {
	r1 := m.read(x.Rs1)
	switch isa.Name(x.Op) {
	case "cgetperm":
		return cap.Int(uint64(r1.Perms))
	case "cgettype":
		return cap.Int(uint64(r1.Type))
	case "cgetbase":
		return cap.Int(r1.Base)
	case "cgetlen":
		return cap.Int(max(r1.Top, r1.Base) - r1.Base)
	case "cgettag":
		return flag(r1.Tag)
	case "ccleartag":
		return cap.Clear(r1)
	case "cgetaddr":
		return cap.Int(r1.At)
	}
	return r1 // cmove
}

// flag is 1 or 0.
func flag(holds bool) api.Cap {
	if holds {
		return cap.Int(1)
	}
	return cap.Int(0)
}

// place is what r1 and an Imm reach: Check shall tell it of a sealed one, so that it keeps its Tag.
func (m *Machine) place(x api.Inst) api.Cap {
	c := m.read(x.Rs1)
	c.At += uint64(x.Imm)
	return c
}

// loadOrJump does an instruction of kind Load, and answers where PC is behind it.
func (m *Machine) loadOrJump(x api.Inst, next api.Cap) (api.Cap, api.Errno) {
	from := m.place(x)
	if isa.Name(x.Op) == "cjalr" {
		return m.jump(x.Rd, from, next)
	}
	c, e := m.load(x.Op, from)
	if e == api.OK {
		m.write(x.Rd, c)
	}
	return next, e
}

// jump goes to a target, and writes where it came from.
func (m *Machine) jump(rd int, target, next api.Cap) (api.Cap, api.Errno) {
	if e := cap.Check(target, wordSize, api.MayRun); e != api.OK {
		return api.Cap{}, e
	}
	if target.At%wordSize != 0 {
		return api.Cap{}, api.ErrAlign
	}
	m.write(rd, next)
	return target, api.OK
}

// load is what an operation loads from a place.
func (m *Machine) load(op int, from api.Cap) (api.Cap, api.Errno) {
	n, signed, ok := alu.Width(op)
	if !ok {
		return m.loadCap(from)
	}
	if e := cap.Check(from, uint64(n), api.MayLoad); e != api.OK {
		return api.Cap{}, e
	}
	w, e := m.Mem.Load(from.At, n)
	if signed {
		w = word.Sign(w, 8*n)
	}
	return cap.Int(w), e
}

func (m *Machine) loadCap(from api.Cap) (api.Cap, api.Errno) {
	if e := cap.Check(from, api.Granule, api.MayLoad); e != api.OK {
		return api.Cap{}, e
	}
	c, e := m.Mem.LoadCap(from.At)
	if from.Perms&api.MayTake == 0 {
		c = cap.Clear(c)
	}
	return c, e
}

// save does an instruction of kind Save.
func (m *Machine) save(x api.Inst) api.Errno {
	to, what := m.place(x), m.read(x.Rs2)
	n, _, ok := alu.Width(x.Op)
	if !ok {
		return m.saveCap(to, what)
	}
	if e := cap.Check(to, uint64(n), api.MayStore); e != api.OK {
		return e
	}
	return m.Mem.Store(to.At, n, what.At)
}

func (m *Machine) saveCap(to, what api.Cap) api.Errno {
	if e := cap.Check(to, api.Granule, api.MayStore); e != api.OK {
		return e
	}
	if what.Tag && to.Perms&api.MayGive == 0 {
		return api.ErrPerm
	}
	return m.Mem.StoreCap(to.At, what)
}

// invoke opens a pair: PC goes to the code, and its data is what that code has.
func (m *Machine) invoke(code, data api.Cap) (api.Cap, api.Errno) {
	switch {
	case !code.Tag || !data.Tag:
		return api.Cap{}, api.ErrTag
	case code.Type < 0 || data.Type < 0:
		return api.Cap{}, api.ErrSeal
	case code.Type != data.Type:
		return api.Cap{}, api.ErrType
	case code.Perms&data.Perms&api.MayInvoke == 0 || code.Perms&api.MayRun == 0 || data.Perms&api.MayRun != 0:
		return api.Cap{}, api.ErrPerm
	}
	code.Type, data.Type = cap.Null().Type, cap.Null().Type
	m.write(invoked, data)
	return code, api.OK
}
