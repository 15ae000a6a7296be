package load

import (
	"curtilage/abi"
	"curtilage/api"
	"curtilage/cap"
	"curtilage/celf"
	"curtilage/cpu"
	"curtilage/graph"
	"curtilage/image"
	"curtilage/layout"
	"curtilage/plan"
	"curtilage/table"
	"curtilage/tagmem"
)

// The fixed numbers of what is loaded.
const (
	firstByte   = 4096  // where libraries lie
	lastByte    = 49152 // where they end at most
	regionFrom  = 192   // the first page of the program's region
	regionPages = 16
	firstType   = 8
)

// Registers that a program begins with.
const (
	stackRegister = 2
	countRegister = 10
	argvRegister  = 11
	envpRegister  = 12
	auxvRegister  = 13
	ownRegister   = 31
)

// loader makes an image, one part behind the other.
type loader struct {
	Image
	files     [][]byte
	root      string
	args, env []string
	mem       *tagmem.Mem
}

func (l *loader) parse() api.Errno {
	for _, b := range l.files {
		o, e := celf.Parse(b)
		if e != api.OK {
			return e
		}
		l.Objects = append(l.Objects, o)
	}
	return api.OK
}

func (l *loader) gather() api.Errno {
	order, _, e := graph.Closure(l.Objects, l.root)
	l.Order = order
	l.Begin = graph.Begin(l.Objects, order)
	return e
}

// program is the root's object, which comes first, and where it lies.
func (l *loader) program() (o api.Object, base uint64) {
	return l.Objects[l.Order[0]], l.Bases[l.Order[0]]
}

func (l *loader) findMain() api.Errno {
	if Main(l.Objects[l.Order[0]]) < 0 {
		return api.ErrUndefined
	}
	return api.OK
}

func (l *loader) link() api.Errno {
	links, _, e := plan.Link(l.Objects, l.Order, l.Order)
	l.Links = links
	return e
}

func (l *loader) lay() api.Errno {
	places, e := layout.Lay(l.Objects, l.Order, firstByte, lastByte)
	l.Bases = make([]uint64, len(l.Objects))
	for i, p := range places {
		l.Bases[l.Order[i]] = p.Base
	}
	return e
}

func (l *loader) giveTypes() api.Errno {
	types, e := table.Types(len(l.Order), firstType)
	l.Types = make([]int, len(l.Objects))
	for i, t := range types {
		l.Types[l.Order[i]] = t
	}
	return e
}

func (l *loader) mapAll() api.Errno {
	m, e := tagmem.New(api.MaxPages)
	if e != api.OK {
		return e
	}
	l.mem = m
	for _, i := range l.Order {
		if e := image.Map(m, l.Objects[i], l.Bases[i]); e != api.OK {
			return e
		}
	}
	return api.OK
}

func (l *loader) fill() api.Errno {
	return table.Fill(l.mem, l.Objects, l.Bases, l.Types, l.Links)
}

// start lays the program's region, and makes the machine.
func (l *loader) start() api.Errno {
	o, base := l.program()
	s := o.Symbols[Main(o)]
	code := image.Part(o, base, celf.At(o, s.At, s.Size))
	read := cap.And(code, api.AllPerms&^api.MayRun)
	start, e := abi.Build(l.mem, regionFrom, regionPages, l.args, l.env, []api.Cap{read})
	if e != api.OK {
		return e
	}
	l.Start = start
	l.Machine = cpu.New(l.mem, cap.Move(code, base+s.At))
	l.Machine.Regs[stackRegister] = start.Stack
	l.Machine.Regs[countRegister] = cap.Int(uint64(len(l.args)))
	l.Machine.Regs[argvRegister] = start.Argv
	l.Machine.Regs[envpRegister] = start.Envp
	l.Machine.Regs[auxvRegister] = start.Auxv
	l.Machine.Regs[ownRegister] = cap.And(image.Own(o, base), api.AllPerms&^api.MayInvoke)
	return api.OK
}
