package build

import (
	"slices"
	"strconv"
	"strings"

	"curtilage/api"
	"curtilage/asm"
)

// maxNumber is the greatest one that a line may have.
const maxNumber = 999999

// lineError is what is wrong with a line.
type lineError struct {
	line int
	what api.Errno
}

// Error tells it in words.
func (l lineError) Error() string { return "line " + strconv.Itoa(l.line) + ": " + l.what.Error() }

// Unwrap is the error without its line.
func (l lineError) Unwrap() error { return l.what }

// writer gathers what lines say.
type writer struct {
	lines  []string
	next   int // which line comes next, which is how many were read
	object api.Object
}

// linesOf are a text's lines, without bytes 32 at their beginnings and ends.
func linesOf(text string) []string {
	l := strings.Split(text, "\n")
	for i, line := range l {
		l[i] = strings.Trim(line, " ")
	}
	return l
}

// gather reads all lines, until one is wrong.
func (w *writer) gather() error {
	for w.next < len(w.lines) {
		line := w.lines[w.next]
		w.next++
		if line == "" || line[0] == '#' {
			continue
		}
		if err := w.say(strings.Split(line, " ")); err != nil {
			return err
		}
	}
	return nil
}

// say does what the words of a line say.
func (w *writer) say(words []string) error {
	if slices.Contains(words, "") {
		return w.wrong()
	}
	rest := words[1:]
	switch words[0] {
	case "name":
		return w.name(rest, func(n string) { w.object.Name = n })
	case "needs":
		return w.name(rest, func(n string) { w.object.Needed = append(w.object.Needed, n) })
	case "code":
		return w.code(rest)
	case "data":
		return w.data(rest)
	case "def":
		return w.define(rest)
	case "use":
		return w.use(rest)
	case "slot":
		return w.slot(rest)
	case "init":
		return w.symbol(rest, func(n int) { w.object.Init = append(w.object.Init, n) })
	case "fini":
		return w.symbol(rest, func(n int) { w.object.Fini = append(w.object.Fini, n) })
	}
	return w.wrong()
}

// wrong says that the line that was read last is none.
func (w *writer) wrong() error { return lineError{line: w.next, what: api.ErrLine} }

// name does something with the one name that there is.
func (w *writer) name(words []string, do func(n string)) error {
	if len(words) != 1 {
		return w.wrong()
	}
	do(words[0])
	return nil
}

// symbol does something with the number of the symbol that is named.
func (w *writer) symbol(words []string, do func(n int)) error {
	if len(words) != 1 {
		return w.wrong()
	}
	n := slices.IndexFunc(w.object.Symbols, func(s api.Symbol) bool { return s.Name == words[0] })
	if n < 0 {
		return w.wrong()
	}
	do(n)
	return nil
}

func (w *writer) slot(words []string) error {
	if len(words) != 2 {
		return w.wrong()
	}
	at, ok := number(words[0])
	if !ok {
		return w.wrong()
	}
	return w.symbol(words[1:], func(n int) { w.object.Relocs = append(w.object.Relocs, api.Reloc{At: at, Sym: n}) })
}

// code reads the lines of a program, too, up to its end.
func (w *writer) code(words []string) error {
	if len(words) != 1 {
		return w.wrong()
	}
	at, ok := number(words[0])
	many := slices.Index(w.lines[w.next:], "end")
	if !ok || many < 0 {
		return w.wrong()
	}
	above := w.next
	program := w.lines[above : above+many]
	w.next += many + 1
	var text strings.Builder
	for _, line := range program {
		text.WriteString(line + "\n")
	}
	b, line, e := asm.Program(text.String())
	if e != api.OK {
		return lineError{line: above + line, what: e}
	}
	w.segment(api.Segment{At: at, Size: uint64(len(b)), Flags: api.FlagRead | api.FlagRun, Bytes: b})
	return nil
}

func (w *writer) segment(s api.Segment) { w.object.Segments = append(w.object.Segments, s) }

func (w *writer) data(words []string) error {
	if len(words) != 4 {
		return w.wrong()
	}
	at, ok1 := number(words[0])
	size, ok2 := number(words[1])
	flags, ok3 := number(words[2])
	b, ok4 := hex(words[3])
	if !ok1 || !ok2 || !ok3 || !ok4 {
		return w.wrong()
	}
	w.segment(api.Segment{At: at, Size: size, Flags: int(flags), Bytes: b})
	return nil
}

// define is KIND N AT SIZE BIND SEEN, and VERSION, which may lack.
func (w *writer) define(words []string) error {
	if len(words) != 6 && len(words) != 7 {
		return w.wrong()
	}
	at, ok1 := number(words[2])
	size, ok2 := number(words[3])
	s := api.Symbol{Name: words[1], Version: strings.Join(words[6:], ""), At: at, Size: size, Kind: kind(words[0]), Bind: bind(words[4]), Seen: seen(words[5]), Defined: true}
	if !ok1 || !ok2 || s.Kind == 0 || s.Bind == 0 || s.Seen == 0 {
		return w.wrong()
	}
	w.object.Symbols = append(w.object.Symbols, s)
	return nil
}

// use is KIND N BIND, and VERSION, which may lack.
func (w *writer) use(words []string) error {
	if len(words) != 3 && len(words) != 4 {
		return w.wrong()
	}
	s := api.Symbol{Name: words[1], Version: strings.Join(words[3:], ""), Kind: kind(words[0]), Bind: bind(words[2]), Seen: api.SeenAll}
	if s.Kind == 0 || s.Bind == 0 {
		return w.wrong()
	}
	w.object.Symbols = append(w.object.Symbols, s)
	return nil
}
