package lab

import (
	"math/rand"
	"strings"
	"testing"

	"curtilage/api"
)

// text is lines, with a byte 10 behind each.
func text(lines ...string) string {
	if len(lines) == 0 {
		return ""
	}
	return strings.Join(lines, "\n") + "\n"
}

func runs(t *testing.T, script string, want ...string) {
	t.Helper()
	if g, line, e := Run(script); g != text(want...) || line != 0 || e != api.OK {
		t.Errorf("%q: %q, line %d, %d, not %q", script, g, line, e, text(want...))
	}
}

// object is a file of a script, with its source's lines.
func object(lines ...string) string {
	return "file\n>" + strings.Join(lines, "\n>") + "\n"
}

// sample is the files of a program, and of a library that it may open.
func sample() string {
	return object("name a", "needs b", "code 0", "addi c1, c1, 1", "addi c17, c0, 1", "addi c10, c0, 2", "ecall", "x:", "cjal c0, x", "end", "def func main 0 20 outer all") +
		object("name b", "code 0", "ecall", "end", "def func f 0 4 outer all", "data 256 8 1 ff07", "def var v 256 2 outer all") +
		object("name c", "needs d", "# a remark", "", "data 0 1 3 09", "def var w 0 1 outer all") + object("name d")
}

func TestExamples(t *testing.T) {
	runs(t, object("name a", "code 0", "ecall", "end", "def func main 0 4 outer all")+"load a\nrun 9\nbyte 4096", "ok", "stop 60 0", "115")
	runs(t, "run 9\nload a", "none", "error 130")
	runs(t, "file\n>foo\nload a", "file 1 1 110")
	for _, script := range []string{">x", "run", "go"} {
		if g, line, e := Run(script); g != "" || line != 1 || e != api.ErrScript {
			t.Errorf("%q: %q, %d, %d", script, g, line, e)
		}
	}
}

func TestLines(t *testing.T) {
	runs(t, "")
	runs(t, "\n\n# nothing\n#\n")
	runs(t, "file\n>name a\nfile")
	runs(t, "open a\nclose a\nsymbol a b\nrun 0\nregs\nreach\nbyte 0\n", "none", "none", "none", "none", "none", "none", "none")
	runs(t, sample()+"load a one two\nopen c\nopen c\nopen b\nopen x\nclose c\nclose c\nclose c\nclose a", "ok", "ok d c", "ok", "ok", "error 130", "ok", "ok c d", "error 210", "error 210")
	runs(t, sample()+"load a\nsymbol b f\nsymbol b v\nsymbol a f\nsymbol c w\nsymbol a nothing\nsymbol nobody f", "ok",
		"+4352..4356@4352:141!9 +4352..4352@4352:129!9", "+4608..4610@4608:9", "+4352..4356@4352:141!9 +4352..4352@4352:129!9", "error 210", "error 140", "error 210")
	runs(t, sample()+"load a\nbyte 4608\nbyte 4609\nbyte 4610\nbyte 0\nbyte 999999\nrun 4\nbyte 4864\nrun 0\nrun 999\nclose c\nbyte 4864", "ok", "255", "7", "0", "error 30", "error 30", "stop 70 4", "9", "stop 70 0", "stop 70 999", "ok c d", "error 30")
}

func TestRegsAndReach(t *testing.T) {
	const regs = " c2 +49344..53248@53248:27 c11 +49152..49152@49152:9 c12 +49184..49184@49184:9 c13 +49216..49248@49216:9 c31 +4096..4096@4096:1"
	runs(t, sample()+"load a\nregs\nreach\nrun 1\nregs", "ok", "pc +4096..4116@4096:13"+strings.Replace(regs, "49344", "49280", 1), "7", "stop 70 1", "pc +4096..4116@4100:13 c1 -0..0@1:0"+strings.Replace(regs, "49344", "49280", 1))
	runs(t, sample()+"load a x yz\nregs\nreach", "ok", "pc +4096..4116@4096:13 c2 +49376..53248@53248:27 c10 -0..0@2:0 c11 +49184..49248@49184:9 c12 +49280..49280@49280:9 c13 +49312..49344@49312:9 c31 +4096..4096@4096:1", "9")
}

func TestLoads(t *testing.T) {
	bad := object("name z", "code 0", "foo", "end")
	runs(t, sample()+"load a\nload b\nrun 5\nload a\nrun 5", "ok", "error 140", "none", "ok", "stop 70 5")
	runs(t, sample()+"load a\n"+bad+"run 1\nload a\nrun 1", "ok", "stop 70 1", "file 5 3 50", "none")
	runs(t, "load a\n"+sample()+"load a", "error 130", "ok")
	runs(t, "file\nload a", "file 1 0 103")
	runs(t, object("name a")+bad+object("foo")+"load a", "file 2 3 50")
	runs(t, object("name a", "slot 0 f")+"load a", "file 1 2 110")
	runs(t, object("name a", "use func f local")+"load a", "file 1 0 106")
	runs(t, object("name a", strings.Repeat("#", 3992))+"load a", "error 140")
	runs(t, object("name a", strings.Repeat("#", 3993))+"load a", "file 1 0 2")
	runs(t, sample()+"load a "+strings.Repeat("x", 200)+"\nload a "+strings.Repeat("x", 201), "ok", "error 1")
	runs(t, sample()+"load a 1 2 3 4 5 6", "ok")
	runs(t, sample()+"load nobody\nload lost\nopen a", "error 130", "error 130", "none")
	runs(t, object("name a", "code 0", "ecall", "end", "def func main 0 4 outer all")+"# between\n\nload a\nopen a\nclose a", "ok", "ok", "ok")
}

func TestX1SourcesStandRightBelowTheirFile(t *testing.T) {
	for script, line := range map[string]int{
		"file\n\n>": 3, "file\n#\n>y": 3, "file\n>x\n\n>y": 4, "file\n>x\n# r\n>y\nrun": 4, "file\n\n#\n\n>x": 5, "file\n>x\nfile\n\n>y": 5, "\n>x": 2, "file\n>x\nload a\n\n>y": 5,
		"file\n\nrun\n>": 3, "file\n# file\n>x": 3, "file\n>x\n#>y\n>z": 4,
	} {
		if g, n, e := Run(script); g != "" || n != line || e != api.ErrScript {
			t.Errorf("%q: %q, line %d, %d, not line %d", script, g, n, e, line)
		}
	}
	// Within a source empty lines and remarks stand behind the mark; above a file, and below it, they part nothing.
	runs(t, "\n# r\nfile\n>name a\n>\n># r\n>code 0\n>ecall\n>end\n>def func main 0 4 outer all\n\n# r\nfile\n>name b\n\nload a", "ok")
	runs(t, "file\n\n# r\nfile\n>#\n>\n>name a\n")
	runs(t, "file\n\nload a", "file 1 0 103")
}

func TestX1WrongLines(t *testing.T) {
	for _, line := range []string{
		"x", " ", "file x", " file", "file ", ">x", ">", "load", "load ", "load a  b", "load a 1 2 3 4 5 6 7", "open", "open a b", "open ", "close", "close a b", "symbol a", "symbol a b c", "symbol a  b", "run", "run x", "run -1", "run 01", "run 1000000", "run 1 2",
		"run  1", "run +1", "regs x", "reach 1", "byte", "byte x", "byte 1 1", "byte -0", "Load a", "\tload a", "load\ta", "run 1\r", " # x", "run 99999999999999999999",
	} {
		script := "file\n>name a\n# remark\n\nload a\n" + line + "\nwrong, too"
		if g, n, e := Run(script); g != "" || n != 6 || e != api.ErrScript {
			t.Errorf("%q: %q, line %d, %d", line, g, n, e)
		}
	}
	for script, line := range map[string]int{"file\nregs\n>x": 3, "# x\n>x": 2, "file\n>a\nfile\n>b\nload a\n>c": 6, "\n\n\nx": 4, "run 5\nrun 0x5": 2} {
		if g, n, e := Run(script); g != "" || n != line || e != api.ErrScript {
			t.Errorf("%q: %q, line %d, %d", script, g, n, e)
		}
	}
}

func TestX1Long(t *testing.T) {
	for i, x := range []struct {
		script string
		e      api.Errno
	}{
		{strings.Repeat("#", 8000), api.OK}, {strings.Repeat("#", 8001), api.ErrLong}, {strings.Repeat("x", 8001), api.ErrLong}, {strings.Repeat("\n", 300), api.OK}, {strings.Repeat("\n", 301), api.ErrLong}, {strings.Repeat("\n", 300) + "#", api.ErrLong},
		{strings.Repeat("\n", 299) + "#", api.OK}, {strings.Repeat("\n", 299) + "#\n", api.OK}, {strings.Repeat("wrong\n", 301), api.ErrLong},
	} {
		if g, line, e := Run(x.script); g != "" || line != 0 || e != x.e {
			t.Errorf("%d: %q, %d, %d", i, g, line, e)
		}
	}
	if g, _, e := Run(strings.Repeat("regs\n", 300)); g != strings.Repeat("none\n", 300) || e != api.OK {
		t.Error(e)
	}
}

func TestX2BeginningsOfScripts(t *testing.T) {
	r := rand.New(rand.NewSource(25))
	for range 60 {
		lines := strings.Split(strings.TrimSuffix(sample(), "\n"), "\n")
		lines = append(lines, "load a")
		for range 12 {
			lines = append(lines, []string{"load a x", "open c", "close c", "run 7", "open d", "load b", "# nothing", "regs"}[r.Intn(8)])
		}
		whole, _, e := Run(text(lines...))
		if e != api.OK {
			t.Fatal(e)
		}
		for n := range lines {
			g, line, e := Run(text(lines[:n]...))
			if e != api.OK || line != 0 || !strings.HasPrefix(whole, g) {
				t.Fatalf("%q: %q, %d", lines[:n], g, e)
			}
		}
	}
}

// isSilent tells whether a line tells nothing.
func isSilent(line string) bool { return line[0] == '>' || line[0] == '#' || line == "file" }

func TestX2WhatOnlyTellsChangesNothing(t *testing.T) {
	r := rand.New(rand.NewSource(26))
	tells := []string{"regs", "reach", "byte 4096", "symbol b f", "run 0", "byte 0", "symbol c w"}
	for range 200 {
		script, longer := sample(), sample()
		var own []bool // of what the longer one tells: whether the other one does
		for range 15 {
			line := []string{"load a", "load a x", "open c", "close c", "run 7", "open d", "load b", "# nothing", "regs", "reach"}[r.Intn(10)]
			script, longer = script+line+"\n", longer+line+"\n"
			if !isSilent(line) {
				own = append(own, true)
			}
			for range r.Intn(3) {
				longer += tells[r.Intn(len(tells))] + "\n"
				own = append(own, false)
			}
		}
		want, _, _ := Run(script)
		told, _, e := Run(longer)
		if e != api.OK {
			t.Fatal(e)
		}
		got := ""
		for i, line := range strings.Split(strings.TrimSuffix(told, "\n"), "\n") {
			if own[i] {
				got += line + "\n"
			}
		}
		if got != want {
			t.Fatalf("%q, not %q", got, want)
		}
	}
}
