package asm

import (
	"iter"
	"strconv"
	"strings"

	"curtilage/api"
	"curtilage/isa"
	"curtilage/word"
)

// label is where one stands: the line of its text, and the place in the code.
type label struct{ line, place int }

// Program is the code of a text.
func Program(text string) (code []byte, line int, e api.Errno) {
	if len(text) > api.MaxText {
		return nil, 0, api.ErrLong
	}
	labels := gather(text)
	for n, said := range lines(text) {
		if name, ok := labelName(said); ok {
			if labels[name].line != n {
				return nil, n, api.ErrLabel
			}
			continue
		}
		w, e := assemble(said, len(code), labels)
		if e != api.OK {
			return nil, n, e
		}
		code = append(code, word.Little(uint64(w), wordSize)...)
	}
	return code, 0, api.OK
}

// lines goes through the lines of a text that say something: the number of each, and what it says.
func lines(text string) iter.Seq2[int, string] {
	return func(yield func(int, string) bool) {
		for i, line := range strings.Split(text, "\n") {
			said, _, _ := strings.Cut(line, ";")
			said = strings.Trim(said, " ")
			if said != "" && !yield(i+1, said) {
				return
			}
		}
	}
}

// gather is where the labels of a text stand: of those with one name the first.
// A line that is wrong counts as an instruction: it is told, and no place behind it is asked for.
func gather(text string) map[string]label {
	labels := map[string]label{}
	place := 0
	for n, said := range lines(text) {
		name, ok := labelName(said)
		if !ok {
			place += wordSize
			continue
		}
		if _, again := labels[name]; !again {
			labels[name] = label{line: n, place: place}
		}
	}
	return labels
}

// labelName is the name of the label that a line is.
func labelName(said string) (string, bool) {
	name, ok := strings.CutSuffix(said, ":")
	return name, ok && isName(name)
}

// isName tells whether s may name a label.
func isName(s string) bool {
	for i := range len(s) {
		c := s[i]
		letter := c >= 'a' && c <= 'z' || c >= 'A' && c <= 'Z' || c == '_'
		digit := c >= '0' && c <= '9'
		if !letter && !(digit && i > 0) {
			return false
		}
	}
	return s != ""
}

// assemble is the number of the instruction that a line says, which stands at a place.
func assemble(said string, place int, labels map[string]label) (uint32, api.Errno) {
	if head, name, ok := splitName(said); ok {
		// With any number in its place the line must be an instruction, ahead of asking where the name is.
		if _, e := Parse(head + "0"); e != api.OK {
			return 0, api.ErrAsm
		}
		target, there := labels[name]
		if !there {
			return 0, api.ErrLabel
		}
		said = head + strconv.Itoa(target.place-place)
	}
	x, e := Parse(said)
	if e != api.OK {
		return 0, e
	}
	return isa.Encode(x)
}

// splitName is what stands ahead of the name that an instruction has in place of its number, and that name.
func splitName(said string) (head, name string, ok bool) {
	operation, _, _ := strings.Cut(said, " ")
	kind := isa.Kind(isa.Find(operation))
	if kind != api.KindIf && kind != api.KindJump {
		return "", "", false
	}
	from := strings.LastIndex(said, between)
	if from < 0 {
		return "", "", false
	}
	head, name = said[:from+len(between)], said[from+len(between):]
	return head, name, isName(name)
}
