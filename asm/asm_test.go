package asm

import (
	"bytes"
	"math/rand"
	"strings"
	"testing"

	"curtilage/api"
	"curtilage/isa"
)

func op(name string) int { return isa.Find(name) }

func TestE1TextsOfAllKinds(t *testing.T) {
	for text, x := range map[string]api.Inst{
		"add c1, c2, c31":        {Op: op("add"), Rd: 1, Rs1: 2, Rs2: 31},
		"addi c1, c0, 5":         {Op: op("addi"), Rd: 1, Imm: 5},
		"addi c0, c0, 0":         {Op: op("addi")},
		"addi c1, c0, -2048":     {Op: op("addi"), Rd: 1, Imm: -2048},
		"slli c3, c4, 63":        {Op: op("slli"), Rd: 3, Rs1: 4, Imm: 63},
		"ld c2, -8(c3)":          {Op: op("ld"), Rd: 2, Rs1: 3, Imm: -8},
		"cjalr c1, 0(c5)":        {Op: op("cjalr"), Rd: 1, Rs1: 5},
		"sd c2, 8(c1)":           {Op: op("sd"), Rs1: 1, Rs2: 2, Imm: 8},
		"csc c31, 32(c2)":        {Op: op("csc"), Rs1: 2, Rs2: 31, Imm: 32},
		"beq c1, c2, -4":         {Op: op("beq"), Rs1: 1, Rs2: 2, Imm: -4},
		"lui c7, -2147483648":    {Op: op("lui"), Rd: 7, Imm: -1 << 31},
		"auipcc c7, 4096":        {Op: op("auipcc"), Rd: 7, Imm: 4096},
		"cjal c1, 1048574":       {Op: op("cjal"), Rd: 1, Imm: 1<<20 - 2},
		"cgettag c1, c2":         {Op: op("cgettag"), Rd: 1, Rs1: 2},
		"cinvoke c1, c2":         {Op: op("cinvoke"), Rs1: 1, Rs2: 2},
		"ecall":                  {Op: op("ecall")},
		"ebreak":                 {Op: op("ebreak")},
		"csetbounds c3, c1, c2":  {Op: op("csetbounds"), Rd: 3, Rs1: 1, Rs2: 2},
		"ctestsubset c3, c1, c2": {Op: op("ctestsubset"), Rd: 3, Rs1: 1, Rs2: 2},
	} {
		if s, e := Print(x); s != text || e != api.OK {
			t.Errorf("%+v is %q, not %q (%d)", x, s, text, e)
		}
		if g, e := Parse(text); g != x || e != api.OK {
			t.Errorf("%q is %+v, not %+v (%d)", text, g, x, e)
		}
	}
}

func TestE1PrintOfNone(t *testing.T) {
	for i, x := range []api.Inst{{}, {Op: 83}, {Op: -1}, {Op: 1, Rd: 32}, {Op: 1, Imm: 1}, {Op: op("ecall"), Rd: 1}, {Op: op("addi"), Imm: 2048}, {Op: op("beq"), Imm: 1}} {
		if s, e := Print(x); s != "" || e != api.ErrArg {
			t.Errorf("%d: %q, %d", i, s, e)
		}
	}
}

func TestE1ParseOfNone(t *testing.T) {
	for _, s := range []string{
		"", " ", "foo", "add", "add ", "addi c1,c0,5", "addi c1, c0, 05", "addi c1, c0, -0", "addi c1, c0, +5", "addi c1, c0, 2048", "addi c1, c0", "addi c1, c0, 5, 6",
		"addi c1, c0, 5 ", " addi c1, c0, 5", "addi  c1, c0, 5", "addi c01, c0, 5", "addi 1, c0, 5", "addi x1, c0, 5", "addi c1, c0, c5", "addi c1, c0, 0x5",
		"addi c1, c0, 99999999999999999999", "addi c1, c0, ", "add c32, c0, c0", "add c-1, c0, c0", "add c, c0, c0", "add c1, c0", "add c1, c0, 5", "Add c1, c0, c0",
		"ecall ", "ecall c0", "ecall, ", "ld c2, -8(c3", "ld c2, -8c3)", "ld c2, (c3)", "ld c2, 8", "ld c2", "ld c2, 8(3)", "ld c2, 8(c3))", "ld c2, 8(c3) ", "sd 8(c1), c2",
		"beq c1, c2, 3", "beq c1, c2, 4096", "beq c1, c2, x", "cjal c0, y", "lui c1, 5", "lui c1, 2147483648", "cgettag c1", "cgettag c1, c2, c3", "cinvoke c1, c2, c0",
		"slli c1, c1, 64", "slliw c1, c1, 32", "add c1, c0, c0\n", "add c1, c0, c0;", "x:", "add\tc1, c0, c0", "add c18446744073709551617, c0, c0",
	} {
		if x, e := Parse(s); x != (api.Inst{}) || e != api.ErrAsm {
			t.Errorf("%q: %+v, %d", s, x, e)
		}
	}
}

// program is the text that List makes of a program's code, which is easier to read than its bytes.
func program(t *testing.T, lines ...string) string {
	t.Helper()
	code, line, e := Program(strings.Join(lines, "\n"))
	if line != 0 || e != api.OK {
		t.Fatalf("%q: line %d, %d", lines, line, e)
	}
	s, e := List(code)
	if e != api.OK {
		t.Fatal(e)
	}
	return strings.ReplaceAll(s, "\n", "|")
}

func TestE2Program(t *testing.T) {
	for i, x := range []struct {
		lines []string
		want  string
	}{
		{[]string{}, ""}, {[]string{"", "  ", " ; remark", ";"}, ""},
		{[]string{"ecall"}, "ecall|"}, {[]string{"ecall", ""}, "ecall|"}, {[]string{"   ecall   ", "ebreak;;x"}, "ecall|ebreak|"},
		{[]string{"x: ", "addi c1, c1, -1 ; less", "bne c1, c0, x"}, "addi c1, c1, -1|bne c1, c0, -4|"},
		{[]string{"cjal c0, end", "ecall", "end:"}, "cjal c0, 8|ecall|"},
		{[]string{"cjal c0, here", "here:", "", "there:", "cjal c1, there", "cjal c1, here"}, "cjal c0, 4|cjal c1, 0|cjal c1, -4|"},
		{[]string{"add:", "c1:", "_9Zz:", "beq c1, c2, add", "cjal c1, c1", "cjal c1, _9Zz"}, "beq c1, c2, 0|cjal c1, -4|cjal c1, -8|"},
		{[]string{"cjal c0, 16", "beq c0, c0, -2"}, "cjal c0, 16|beq c0, c0, -2|"},
		{[]string{"x:;y:", "cjal c0, x"}, "cjal c0, 0|"},
		{[]string{"aZ0:", "Az9:", "zAa_09:", "_:", "beq c0, c0, aZ0", "cjal c0, Az9", "cjal c0, zAa_09", "cjal c0, _"}, "beq c0, c0, 0|cjal c0, -4|cjal c0, -8|cjal c0, -12|"},
	} {
		if g := program(t, x.lines...); g != x.want {
			t.Errorf("%d: %s, not %s", i, g, x.want)
		}
	}
	if code, _, _ := Program("addi c1, c0, 5\necall\n"); !bytes.Equal(code, []byte{0x93, 0, 0x50, 0, 0x73, 0, 0, 0}) {
		t.Error(code)
	}
}

func TestE2Errors(t *testing.T) {
	for i, x := range []struct {
		text string
		line int
		e    api.Errno
	}{
		{"foo", 1, api.ErrAsm}, {"\n\necall ecall", 3, api.ErrAsm}, {"x :", 1, api.ErrAsm}, {"9x:", 1, api.ErrAsm}, {":", 1, api.ErrAsm}, {"x.y:", 1, api.ErrAsm},
		{"x: ecall", 1, api.ErrAsm}, {"\tecall", 1, api.ErrAsm}, {"ecall\r\n", 1, api.ErrAsm}, {"addi c1, c0, x\nx:", 1, api.ErrAsm}, {"lui c1, x\nx:", 1, api.ErrAsm},
		{"beq c1, c0, -0", 1, api.ErrAsm}, {"beq c1, c0, 1", 1, api.ErrAsm}, {"cjal c0,x\nx:", 1, api.ErrAsm}, {"cjal x\nx:", 1, api.ErrAsm}, {"cjal c0, x y\nx:", 1, api.ErrAsm},
		{"beq c1, c32, x\nx:", 1, api.ErrAsm}, {"beq c1, c32, y", 1, api.ErrAsm}, {"beq c1, y", 1, api.ErrAsm}, {"# x", 1, api.ErrAsm}, {"ä:", 1, api.ErrAsm},
		{"0:", 1, api.ErrAsm}, {"9:", 1, api.ErrAsm}, {"a@:", 1, api.ErrAsm}, {"a[:", 1, api.ErrAsm}, {"a`:", 1, api.ErrAsm}, {"a{:", 1, api.ErrAsm}, {"a/:", 1, api.ErrAsm}, {"a-b:", 1, api.ErrAsm},
		{"x:\nx:", 2, api.ErrLabel}, {"x:\necall\n\nx:\nx:", 4, api.ErrLabel}, {"cjal c0, y", 1, api.ErrLabel}, {"ecall\nbne c1, c0, X\nx:", 2, api.ErrLabel},
		{"cjal c0, y\nfoo", 1, api.ErrLabel}, {"foo\ncjal c0, y", 1, api.ErrAsm}, {"cjal c0, y\nfoo\ny:", 2, api.ErrAsm}, {"cjal c0, x\nfoo\nx:\nx:", 2, api.ErrAsm},
		{"x:\ncjal c0, x\nx:\nfoo", 3, api.ErrLabel},
	} {
		if code, line, e := Program(x.text); len(code) != 0 || line != x.line || e != x.e {
			t.Errorf("%d: %q: %v, line %d, %d", i, x.text, code, line, e)
		}
	}
}

func TestE2Long(t *testing.T) {
	text := strings.Repeat("ecall\n", 666) + "    "
	if len(text) != api.MaxText {
		t.Fatal(len(text))
	}
	if code, line, e := Program(text); len(code) != 4*666 || line != 0 || e != api.OK {
		t.Error(len(code), line, e)
	}
	for _, text := range []string{text + " ", "foo" + text} {
		if code, line, e := Program(text); code != nil || line != 0 || e != api.ErrLong {
			t.Error(len(code), line, e)
		}
	}
	far := "cjal c0, x\n" + strings.Repeat("ecall\n", 660) + "x:\nbeq c0, c0, y\ny:"
	if code, line, e := Program(far); len(code) != 4*662 || e != api.OK {
		t.Error(len(code), line, e)
	}
}

func TestE3List(t *testing.T) {
	for i, x := range []struct {
		code []byte
		want string
		e    api.Errno
	}{
		{nil, "", api.OK}, {[]byte{}, "", api.OK}, {[]byte{0x73, 0, 0, 0}, "ecall\n", api.OK}, {[]byte{0x93, 0, 0x50, 0, 0x73, 0, 0, 0}, "addi c1, c0, 5\necall\n", api.OK},
		{[]byte{0x73}, "", api.ErrArg}, {[]byte{0, 0, 0, 0, 0}, "", api.ErrArg}, {[]byte{0x73, 0, 0, 0, 0, 0, 0, 0}, "", api.ErrCode}, {[]byte{255, 255, 255, 255}, "", api.ErrCode},
	} {
		if s, e := List(x.code); s != x.want || e != x.e {
			t.Errorf("%d: %q, %d", i, s, e)
		}
	}
}

func TestE4WhatIsPrintedIsParsed(t *testing.T) {
	r := rand.New(rand.NewSource(5))
	for many := 0; many < 3000; {
		w := r.Uint32()&0xfffff000 | uint32(r.Intn(32))<<7 | []uint32{3, 15, 19, 23, 27, 35, 51, 55, 59, 91, 99, 103, 111}[r.Intn(13)]
		if r.Intn(2) == 0 {
			w &= 0x41ffffff
		}
		x, e := isa.Decode(w)
		if e != api.OK {
			continue
		}
		many++
		s, e := Print(x)
		if e != api.OK {
			t.Fatal(x, e)
		}
		if g, e := Parse(s); g != x || e != api.OK {
			t.Fatalf("%q is %+v, not %+v", s, g, x)
		}
		code := []byte{byte(w), byte(w >> 8), byte(w >> 16), byte(w >> 24)}
		listed, e := List(code)
		if e != api.OK {
			t.Fatal(e)
		}
		if again, _, e := Program(listed); e != api.OK || !bytes.Equal(again, code) {
			t.Fatalf("%q makes %v, not %v", listed, again, code)
		}
	}
}

func TestR1AnyText(t *testing.T) {
	r := rand.New(rand.NewSource(6))
	pieces := []string{"add", "beq", "cjal", "ld", "sd", "c1", "c2", ", ", "(", ")", "0", "-4", "x", ":", " ", "\n", ";", "\xff", "ecall", "c99999999999999999999"}
	for range 20000 {
		s := ""
		for range r.Intn(12) {
			s += pieces[r.Intn(len(pieces))]
		}
		if x, e := Parse(s); e == api.OK {
			if p, _ := Print(x); p != s {
				t.Fatalf("%q is %q", s, p)
			}
		}
		if code, line, e := Program(s); (e == api.OK) != (line == 0) || e != api.OK && code != nil {
			t.Fatalf("%q: %v, %d, %d", s, code, line, e)
		}
	}
}
