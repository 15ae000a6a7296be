package lab

import (
	"slices"
	"strconv"
	"strings"
)

const (
	maxNumber = 999999
	maxArgs   = 6
)

// sourceMark begins a line of a file's source.
const sourceMark = ">"

// command is what a line says: its words, of which the first one says what is done, or what stands behind the mark of a source's line.
type command struct {
	words  []string
	number int // of those that have one, which is their last word
	source bool
	text   string
}

// read are the commands of lines, or the first line that is none, from 1 on.
func read(lines []string) (commands []command, wrong int) {
	belowFile := false // whether the line right above is `file`, or a line of its source
	for i, line := range lines {
		if saysNothing(line) {
			belowFile = false // what says nothing is no line of a file either
			continue
		}
		c, ok := parse(line)
		if !ok || c.source && !belowFile {
			return nil, i + 1
		}
		belowFile = c.source || c.words[0] == "file"
		commands = append(commands, c)
	}
	return commands, 0
}

// saysNothing tells whether a line is empty or a remark.
func saysNothing(line string) bool { return line == "" || line[0] == '#' }

// parse is the command that a line is.
func parse(line string) (c command, ok bool) {
	if text, source := strings.CutPrefix(line, sourceMark); source {
		return command{source: true, text: text}, true
	}
	c.words = strings.Split(line, " ")
	if slices.Contains(c.words, "") {
		return command{}, false
	}
	operands := len(c.words) - 1
	switch c.words[0] {
	case "file", "regs", "reach":
		return c, operands == 0
	case "load":
		return c, operands >= 1 && operands <= 1+maxArgs
	case "open", "close":
		return c, operands == 1
	case "symbol":
		return c, operands == 2
	case "run", "byte":
		c.number, ok = number(c.words[operands])
		return c, ok && operands == 1
	}
	return command{}, false
}

// number is one that is written as the document writes them.
func number(s string) (n int, ok bool) {
	n, err := strconv.Atoi(s)
	if err != nil || n < 0 || n > maxNumber || strconv.Itoa(n) != s {
		return 0, false
	}
	return n, true
}
