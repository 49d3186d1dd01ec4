package config

import (
	"fmt"
	"strings"
	"testing"

	"purlin/api"
	"purlin/vfs"
)

// calling answers a call of a source, by its name.
func calling(source string) string { return fmt.Sprintf("module %q { source = %q }\n", source, source) }

// TestConfigurationOrder has modules within one another: each is followed by those that it has.
func TestConfigurationOrder(t *testing.T) {
	files := []string{"main.hcl", "module \"x\" { source = \"a\" }\nmodule \"y\" { source = \"b\" }\nmodule \"z\" { source = \"a\" }", "a/main.hcl", calling("c") + calling("b"), "a/b/main.hcl", "locals { a = 1 }", "a/c/main.hcl", calling("d"), "a/c/d/main.hcl", "", "b/main.hcl", "variable \"v\" { default = 1 }"}
	a := "\"a/\"; call c@0 to %d []; call b@28 to %d []\n\"a/c/\"; call d@0 to %d []\n\"a/c/d/\"\n\"a/b/\"; locals [a=0@9]"
	want := "\"\"; call x@0 to 1 []; call y@28 to 5 []; call z@56 to 6 []\n" + fmt.Sprintf(a, 2, 4, 3) + "\n\"b/\"; var v=0@0\n" + fmt.Sprintf(a, 7, 9, 8)
	checkLoad(t, "", want, files...)
}

// TestDirectories has roots elsewhere, and texts that are no directories, but have a file with what stands behind them.
func TestDirectories(t *testing.T) {
	files := []string{"main.hcl", "locals { a = 1 }", "n/main.hcl", "locals { b = 1 }\n" + calling("m"), "n/m/main.hcl", "locals { c = 1 }", "nmain.hcl", "locals { d = 1 }\n" + calling("o"), "no/main.hcl", "locals { e = 1 }", "/main.hcl", "locals { f = 1 }", "../n/main.hcl", "locals { g = 1 }"}
	for dir, want := range map[string]string{
		"":      `""; locals [a=0@9]`,
		"n/":    "\"n/\"; locals [b=0@9]; call m@17 to 1 []\n\"n/m/\"; locals [c=0@9]",
		"n/m/":  `"n/m/"; locals [c=0@9]`,
		"n":     "\"n\"; locals [d=0@9]; call o@17 to 1 []\n\"no/\"; locals [e=0@9]",
		"/":     `"/"; locals [f=0@9]`,
		"../n/": `"../n/"; locals [g=0@9]`,
	} {
		checkLoad(t, dir, want, files...)
	}
	for _, dir := range []string{"m/", "n/m", "main.hcl", " ", "a b/", "./", "n//", "n/../", "\x00", "\xff", strings.Repeat("n", 100000)} {
		checkWrong(t, disk(t, files...), dir, api.Diag{Code: api.ErrModule, File: dir + "main.hcl"})
	}
	checkWrong(t, vfs.New(), "", api.Diag{Code: api.ErrModule, File: "main.hcl"})
}

// TestLongPath has a directory whose file has as long a path as may be, and one more byte.
func TestLongPath(t *testing.T) {
	dir := strings.Repeat("d", api.MaxPath-len("/n/main.hcl")) + "/"
	files := []string{dir + "main.hcl", calling("n"), dir + "n/main.hcl", ""}
	checkLoad(t, dir, fmt.Sprintf("%q; call n@0 to 1 []\n%q", dir, dir+"n/"), files...)
	checkWrong(t, disk(t, dir+"main.hcl", calling("nn")), dir, api.Diag{Code: api.ErrModule, File: dir + "nn/main.hcl"})
}

// TestNested has modules as deep within one another as they may be, and deeper.
func TestNested(t *testing.T) {
	var files []string
	want, dir := `""; call n@0 to 1 []`, ""
	for depth := range api.MaxModules + 1 {
		files = append(files, dir+"main.hcl", calling("n"))
		dir += "n/"
		if depth < api.MaxModules-1 {
			want += fmt.Sprintf("\n%q; call n@0 to %d []", dir, depth+2)
		}
	}
	last := len(files) - 1
	files[last] = "variable \"a\" { default = 1 }\n"
	checkLoad(t, "", want+"\n\"n/n/n/n/\"; var a=0@0", files...)
	// Deeper than may be is told ahead of all that is wrong within.
	for _, further := range [][]string{nil, {dir + "main.hcl", ""}, {dir + "main.hcl", "nope {}"}} {
		files[last] = "variable \"a\" { default = 1 }\n ^" + calling("n") + calling("m")
		checkMarked(t, api.ErrModule, append(files, further...)...)
	}
	checkLoad(t, "n/", "\"n/\"; call n@0 to 1 []\n\"n/n/\"; call n@0 to 2 []\n\"n/n/n/\"; call n@0 to 3 []\n\"n/n/n/n/\"; call n@0 to 4 []\n\"n/n/n/n/n/\"", append(files[:last], calling("n"), dir+"main.hcl", "")[2:]...)
}

// TestNestedFirst wants a module that is deep enough to be gone through ahead of another that is too deep.
func TestNestedFirst(t *testing.T) {
	files := []string{"main.hcl", calling("n") + "^" + "module \"m\" {\nsource = \"v\"\n}", "v/main.hcl", "variable \"a\" {}"}
	for dir := "n/"; dir != "n/n/n/n/"; dir += "n/" {
		files = append(files, dir+"main.hcl", calling("n"))
	}
	checkMarked(t, api.ErrBlock, append(files, "n/n/n/n/main.hcl", "")...)
	checkMarked(t, api.ErrModule, append([]string{"main.hcl", strings.Replace(files[1], "^", "", 1)}, append(files[2:], "n/n/n/n/main.hcl", "^"+calling("n"))...)...)
}

// TestMany has as many modules as there may be, and more, side by side.
func TestMany(t *testing.T) {
	want, main := `""`, ""
	for i := 1; i < api.MaxMods; i++ {
		want += fmt.Sprintf("; call c%02d@%d to %d []", i, len(main), i)
		main += fmt.Sprintf("module \"c%02d\" { source = \"n\" }\n", i)
	}
	want += strings.Repeat("\n\"n/\"", api.MaxMods-1)
	checkLoad(t, "", want, "main.hcl", main, "n/main.hcl", "")
	for _, source := range []string{"n", "gone", "wrong"} {
		checkMarked(t, api.ErrModule, "main.hcl", main+"^module \"more\" {\nsource = \""+source+"\"\n}\n"+calling("wrong"), "n/main.hcl", "", "wrong/main.hcl", "nope {}")
	}
}

// TestManyWithin has modules that are too many within others: all that come ahead in the configuration count.
func TestManyWithin(t *testing.T) {
	seven := ""
	for i := range 7 {
		seven += calling(fmt.Sprintf("s%d", i))
	}
	files := []string{"main.hcl", calling("a") + calling("b"), "a/main.hcl", seven, "b/main.hcl", ""}
	for i := range 7 {
		files = append(files, fmt.Sprintf("a/s%d/main.hcl", i), "", fmt.Sprintf("b/s%d/main.hcl", i), "")
	}
	last := strings.LastIndex(seven, "module")
	files[5] = seven[:last]
	if c, wrong := Load(disk(t, files...), ""); wrong != nil || len(c.Mods) != api.MaxMods || c.Mods[0].Calls[1].Mod != 9 || c.Mods[15].Dir != "b/s5/" {
		t.Errorf("P11.1: %s\n%s", toldWrong(wrong), told(c))
	}
	files[5] = seven[:last] + "^" + seven[last:]
	checkMarked(t, api.ErrModule, files...)
	// A module that is too many comes ahead of what is wrong with the arguments of the call that it is in.
	files[1] = calling("a") + "module \"b\" {\nsource = \"b\"\nq = 1\n}"
	files[5] = seven[:last] + "^" + seven[last:]
	checkMarked(t, api.ErrModule, files...)
}

// TestArguments has calls of modules with variables of both kinds.
func TestArguments(t *testing.T) {
	const vars = "variable \"a\" {}\nvariable \"b\" { default = 1 }\nvariable \"c\" {}"
	for text, want := range map[string]string{
		"a = 1\nc = 2":          "[a=1@27 c=2@33]",
		"c = 1\nb = 2\na = 3":   "[c=1@27 b=2@33 a=3@39]",
		"a = null\nc = source":  "[a=1@27 c=2@36]",
		"a = var.x\nc = [1, 2]": "[a=2@27 c=5@37]",
	} {
		checkLoad(t, "", `""; call m@0 to 1 `+want+"\n\"n/\"; var a=-1@0; var b=0@16; var c=-1@45", "main.hcl", "module \"m\" {\nsource = \"n\"\n "+text+"\n}", "n/main.hcl", vars)
	}
	for text, code := range map[string]api.Errno{
		"^module \"m\" {\nsource = \"n\"\n}":                           api.ErrBlock,
		"^module \"m\" {\nsource = \"n\"\na = 1\n}":                    api.ErrBlock,
		"^module \"m\" {\nc = 1\nsource = \"n\"\nb = 1\n}":             api.ErrBlock,
		"module \"m\" {\nsource = \"n\"\na = 1\nc = 1\n^d = 1\n}":      api.ErrName,
		"module \"m\" {\n^A = 1\nsource = \"n\"\na = 1\nc = 1\n}":      api.ErrName,
		"module \"m\" {\nsource = \"n\"\na = 1\nc = 1\n^l = 1\n}":      api.ErrName,
		"module \"m\" {\nsource = \"n\"\na = 1\nc = 1\n^o = 1\nl=1\n}": api.ErrName,
	} {
		checkMarked(t, code, "main.hcl", text, "n/main.hcl", vars+"\nlocals { l = 1 }\noutput \"o\" { value = 1 }")
	}
}

// TestOwnVariables wants a root's variables without a default to need nothing, and no argument to be of the module that the call is in.
func TestOwnVariables(t *testing.T) {
	checkMarked(t, api.ErrName, "main.hcl", "variable \"a\" {}\nmodule \"m\" {\nsource = \"n\"\n^a = 1\n}", "n/main.hcl", "variable \"b\" {}")
	checkLoad(t, "", "\"\"; var a=-1@0; call m@16 to 1 [b=1@42]\n\"n/\"; var b=-1@0", "main.hcl", "variable \"a\" {}\nmodule \"m\" {\nsource = \"n\"\nb = 1\n}", "n/main.hcl", "variable \"b\" {}")
}

// TestParseErrors has files that aren't parsed: what syntax.Parse tells is told, in the file that it is in.
func TestParseErrors(t *testing.T) {
	for text, want := range map[string]api.Diag{
		"a {} }":                               {Code: api.ErrSyntax, At: 5},
		"locals {\na = {k = 1, k = 2}\n}":      {Code: api.ErrTwice, At: 21},
		"locals { a = 01 }":                    {Code: api.ErrLex, At: 13},
		"locals { a = \"${1 1}\" }":            {Code: api.ErrSyntax, At: 18},
		"# \xff":                               {Code: api.ErrText, At: 2},
		strings.Repeat("\n", api.MaxText+1):    {Code: api.ErrLong},
		strings.Repeat("\n", api.MaxJSON):      {Code: api.ErrLong},
		"a" + strings.Repeat("\n", 1+4096):     {Code: api.ErrLong, At: 4096},
		strings.Repeat("a {\n", api.MaxNest+1): {Code: api.ErrDeep, At: 4*api.MaxNest + 2},
	} {
		want.File = "main.hcl"
		checkWrong(t, disk(t, "main.hcl", text), "", want)
		want.File = "n/main.hcl"
		checkWrong(t, disk(t, "n/main.hcl", text), "n/", want)
		checkWrong(t, disk(t, "n/main.hcl", text, "main.hcl", calling("n")), "", want)
		want.File = "n/n/main.hcl"
		checkWrong(t, disk(t, "n/n/main.hcl", text, "n/main.hcl", calling("n"), "main.hcl", calling("n")+"# ~"), "", want)
	}
}
