package lab

import (
	"strconv"

	"curtilage/api"
	"curtilage/build"
	"curtilage/cap"
	"curtilage/reach"
	"curtilage/system"
)

// lab is a system, if one was loaded, and the sources of the files above.
type lab struct {
	*system.System
	sources []string
}

// do does what a line says, and answers what it tells.
func (l *lab) do(c command) string {
	switch {
	case c.source:
		l.sources[len(l.sources)-1] += c.text + "\n"
		return ""
	case c.words[0] == "file":
		l.sources = append(l.sources, "")
		return ""
	case c.words[0] == "load":
		return l.load(c.words[1], c.words[2:])
	case l.System == nil:
		return "none"
	}
	return l.ask(c)
}

// ask does what a line says of a system that was loaded.
func (l *lab) ask(c command) string {
	switch c.words[0] {
	case "open":
		begin, e := l.Open(c.words[1])
		return l.moved(begin, e)
	case "close":
		end, e := l.Close(c.words[1])
		return l.moved(end, e)
	case "symbol":
		given, e := l.Symbol(c.words[1], c.words[2])
		return capabilities(given, e)
	case "run":
		stop := l.Run(c.number)
		return "stop " + decimal(int(stop.Why)) + " " + decimal(stop.Steps)
	case "regs":
		return l.Machine.Text()
	case "reach":
		return decimal(len(reach.Of(l.Machine)))
	}
	w, e := l.Machine.Mem.Load(uint64(c.number), 1) // byte
	if e != api.OK {
		return failed(e)
	}
	return decimal(int(w))
}

// load loads a program of the files above, in place of what was loaded.
func (l *lab) load(root string, args []string) string {
	l.System = nil
	var files [][]byte
	for i, source := range l.sources {
		o, line, e := build.Source(source)
		if e != api.OK {
			return "file " + decimal(i+1) + " " + decimal(line) + " " + decimal(int(e))
		}
		b, e := build.Make(o)
		if e != api.OK {
			return failed(e)
		}
		files = append(files, b)
	}
	s, e := system.New(files, root, args, nil)
	if e != api.OK {
		return failed(e)
	}
	l.System = s
	return "ok"
}

// moved tells the Names of objects that began, or ended.
func (l *lab) moved(objs []int, e api.Errno) string {
	if e != api.OK {
		return failed(e)
	}
	text := "ok"
	for _, i := range objs {
		text += " " + l.Objects[i].Name
	}
	return text
}

func capabilities(given []api.Cap, e api.Errno) string {
	if e != api.OK {
		return failed(e)
	}
	text := ""
	for i, c := range given {
		if i > 0 {
			text += " "
		}
		text += cap.Text(c)
	}
	return text
}

func failed(e api.Errno) string { return "error " + decimal(int(e)) }

func decimal(n int) string { return strconv.Itoa(n) }
