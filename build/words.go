package build

import (
	"strconv"
	"strings"

	"curtilage/api"
)

// What a word of a line means; 0, or false, if it means nothing.

func kind(s string) int {
	switch s {
	case "func":
		return api.SymFunc
	case "var":
		return api.SymData
	}
	return 0
}

func bind(s string) int {
	switch s {
	case "local":
		return api.BindLocal
	case "outer":
		return api.BindOuter
	case "weak":
		return api.BindWeak
	}
	return 0
}

func seen(s string) int {
	switch s {
	case "all":
		return api.SeenAll
	case "own":
		return api.SeenOwn
	}
	return 0
}

// number is one that is written as the document writes them.
func number(s string) (uint64, bool) {
	n, err := strconv.Atoi(s)
	if err != nil || n < 0 || n > maxNumber || strconv.Itoa(n) != s {
		return 0, false
	}
	return uint64(n), true
}

// hex are the bytes of two digits each.
func hex(s string) ([]byte, bool) {
	const digits = "0123456789abcdef"
	if s == "-" {
		return nil, true
	}
	if len(s)%2 != 0 {
		return nil, false
	}
	b := make([]byte, len(s)/2)
	for i := range len(s) {
		digit := strings.IndexByte(digits, s[i])
		if digit < 0 {
			return nil, false
		}
		b[i/2] = b[i/2]<<4 | byte(digit)
	}
	return b, true
}
