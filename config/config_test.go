package config

import (
	"fmt"
	"reflect"
	"slices"
	"strings"
	"testing"

	"purlin/api"
	"purlin/syntax"
	"purlin/vfs"
)

// disk answers a file system with files: of each its path, then its text.
func disk(t *testing.T, files ...string) *vfs.FS {
	t.Helper()
	f := vfs.New()
	for i := 0; i < len(files); i += 2 {
		if err := f.Write(files[i], []byte(files[i+1])); err != api.OK {
			t.Fatalf("Write(%q): %v", files[i], err)
		}
	}
	return f
}

// toldAttrs answers attributes, told: of each its name, its expression's place, its byte.
func toldAttrs(attrs []api.Attr) string {
	var told []string
	for _, a := range attrs {
		told = append(told, fmt.Sprintf("%s=%d@%d", a.Name, a.Expr, a.At))
	}
	return "[" + strings.Join(told, " ") + "]"
}

// toldRes answers a resource, told: of what it may lack what it has.
func toldRes(r api.Res) string {
	told := fmt.Sprintf("%s.%s@%d %s", r.Type, r.Name, r.At, toldAttrs(r.Attrs))
	if r.Count != -1 {
		told += fmt.Sprintf(" count=%d", r.Count)
	}
	if r.Each != -1 {
		told += fmt.Sprintf(" each=%d", r.Each)
	}
	if r.Swap {
		told += " swap"
	}
	if r.Prevent {
		told += " prevent"
	}
	if len(r.Deps) > 0 {
		told += fmt.Sprintf(" deps %s", strings.Join(r.Deps, ","))
	}
	return told
}

// toldMod answers all that a module declares, told.
func toldMod(m api.Mod) string {
	told := []string{fmt.Sprintf("%q", m.Dir)}
	for _, v := range m.Vars {
		told = append(told, fmt.Sprintf("var %s=%d@%d", v.Name, v.Default, v.At))
	}
	if len(m.Locals) > 0 {
		told = append(told, "locals "+toldAttrs(m.Locals))
	}
	if len(m.Outputs) > 0 {
		told = append(told, "outputs "+toldAttrs(m.Outputs))
	}
	for _, r := range m.Res {
		told = append(told, toldRes(r))
	}
	for _, c := range m.Calls {
		told = append(told, fmt.Sprintf("call %s@%d to %d %s", c.Name, c.At, c.Mod, toldAttrs(c.Args)))
	}
	return strings.Join(told, "; ")
}

// told answers a configuration, told, a line each module; but for the files.
func told(c api.Config) string {
	var lines []string
	for _, m := range c.Mods {
		lines = append(lines, toldMod(m))
	}
	return strings.Join(lines, "\n")
}

// toldWrong answers an error, told.
func toldWrong(wrong *api.Diag) string {
	if wrong == nil {
		return "nothing wrong"
	}
	return fmt.Sprintf("%d at %d of %q", int(wrong.Code), wrong.At, wrong.File)
}

// checkFiles wants each module to have the file that its text is parsed to.
func checkFiles(t *testing.T, f *vfs.FS, c api.Config) {
	t.Helper()
	for _, m := range c.Mods {
		data, there := f.Read(m.Dir + "main.hcl")
		want, wrong := syntax.Parse(string(data))
		if got := fmt.Sprintf("%+v", m.File); !there || wrong != nil || got != fmt.Sprintf("%+v", want) {
			t.Errorf("P11.1: the file of %q: %s, want %+v", m.Dir, got, want)
		}
	}
}

// checkLoad wants a configuration of files.
func checkLoad(t *testing.T, dir, want string, files ...string) {
	t.Helper()
	f := disk(t, files...)
	c, wrong := Load(f, dir)
	if got := told(c); wrong != nil || got != want {
		t.Errorf("P11.1: Load(%q) of %.300q: %s\n%s, want\n%s", dir, files, toldWrong(wrong), got, want)
	}
	checkFiles(t, f, c)
}

// checkWrong wants an error, and nothing beside it (R3).
func checkWrong(t *testing.T, f *vfs.FS, dir string, want api.Diag) {
	t.Helper()
	c, wrong := Load(f, dir)
	if wrong == nil || *wrong != want {
		t.Errorf("P11.1: Load(%q): %s, want %s", dir, toldWrong(wrong), toldWrong(&want))
	}
	if wrong != nil && !reflect.DeepEqual(c, api.Config{}) {
		t.Errorf("P7: R3: Load(%q): %+v beside an error", dir, c)
	}
}

// checkMarked wants an error at the mark ^ in one of the files' texts, which is taken out of it.
func checkMarked(t *testing.T, code api.Errno, files ...string) {
	t.Helper()
	files = slices.Clone(files)
	want := api.Diag{Code: code, File: "no mark", At: -1}
	for i := 1; i < len(files); i += 2 {
		if head, tail, has := strings.Cut(files[i], "^"); has {
			want.File, want.At = files[i-1], len(head)
			files[i] = head + tail
		}
	}
	c, wrong := Load(disk(t, files...), "")
	if wrong == nil || *wrong != want {
		t.Errorf("P11.1: Load of %.300q: %s, want %s", files, toldWrong(wrong), toldWrong(&want))
	}
	if wrong != nil && !reflect.DeepEqual(c, api.Config{}) {
		t.Errorf("P7: R3: Load of %.300q: %+v beside an error", files, c)
	}
}

// TestExamples has those of the chapter.
func TestExamples(t *testing.T) {
	main, net := "variable \"a\" {}\nmodule \"m\" {\nsource = \"net\"\nx = 1\n}\n", "variable \"x\" {}"
	checkLoad(t, "", "\"\"; var a=-1@0; call m@16 to 1 [x=1@44]\n\"net/\"; var x=-1@0", "main.hcl", main, "net/main.hcl", net)
	checkWrong(t, disk(t, "main.hcl", main), "", api.Diag{Code: api.ErrModule, File: "net/main.hcl"})
	checkMarked(t, api.ErrBlock, "main.hcl", `resource "t" "n" { ^id = 1 }`)
}

// TestDeclared has blocks of each kind.
func TestDeclared(t *testing.T) {
	for text, want := range map[string]string{
		"":                "",
		"\n # nothing \n": "",
		"variable \"a\" {}\nvariable \"b\" {\n default = 1 + 2\n}":                            "; var a=-1@0; var b=2@16",
		"variable \"a\" { default = null }":                                                   "; var a=0@0",
		"locals {\n}":                                                                         "",
		" locals {\n a = 1\n b = a\n}\nlocals { c = 2 }":                                      "; locals [a=0@11 b=1@18 c=2@35]",
		"output \"o\" { value = a.b }\noutput \"p\" {\n value = 3 }":                          "; outputs [o=1@0 p=2@27]",
		"resource \"t\" \"n\" {}":                                                             "; t.n@0 []",
		"\nresource \"t\" \"n\" {\n for_each = {}\n}":                                         "; t.n@1 [] each=0",
		"resource \"t\" \"n\" {\n a = 0\n count = 1\n b = 2\n depends_on = [t.m, u]\n c = 3}": "; t.n@0 [a=0@20 b=2@38 c=7@68] count=1 deps t.m,u",
		"resource \"t\" \"n\" {}\nresource \"t\" \"m\" {}\nresource \"u\" \"n\" {}":           "; t.n@0 []; t.m@20 []; u.n@40 []",
	} {
		checkLoad(t, "", `""`+want, "main.hcl", text)
	}
}

// TestOwnNames has one name in each list: none is in another's way.
func TestOwnNames(t *testing.T) {
	text := "variable \"a\" {}\nlocals { a = 1 }\noutput \"a\" { value = 2 }\nresource \"a\" \"a\" { a = 3 }\nmodule \"a\" {\n source = \"a\"\n a = 4\n}"
	want := "\"\"; var a=-1@0; locals [a=0@25]; outputs [a=1@33]; a.a@58 [a=2@77]; call a@85 to 1 [a=4@113]\n\"a/\"; var a=-1@0"
	checkLoad(t, "", want, "main.hcl", text, "a/main.hcl", `variable "a" {}`)
}

// TestFileOrder has blocks of all kinds between one another: each list has the file's order.
func TestFileOrder(t *testing.T) {
	text := "output \"z\" { value = 0 }\nvariable \"z\" {}\nlocals { z = 1 }\nresource \"z\" \"z\" {}\nvariable \"a\" {}\noutput \"a\" { value = 2 }\nlocals { a = 3 }\nresource \"a\" \"z\" {}"
	checkLoad(t, "", `""; var z=-1@25; var a=-1@78; locals [z=1@50 a=3@128]; outputs [z=0@0 a=2@94]; z.z@58 []; a.z@136 []`, "main.hcl", text)
}

// TestMeanings has names that mean something in one kind of block, in those where they mean nothing.
func TestMeanings(t *testing.T) {
	checkLoad(t, "", `""; locals [id=0@9 count=1@16 source=2@26 default=3@37 null=4@49]`, "main.hcl", "locals {\nid = 1\ncount = 2\nsource = 3\ndefault = 4\nnull = 5\n}")
	checkLoad(t, "", `""; a.lifecycle@0 [source=0@27 value=1@38 default=2@48 lifecycle=3@60 for=4@74]`, "main.hcl", "resource \"a\" \"lifecycle\" {\nsource = 1\nvalue = 2\ndefault = 3\nlifecycle = 4\nfor = 5\n}")
	names := "\nid = 1\ncount = 2\nfor_each = 3\ndepends_on = 4\nvalue = 5\n"
	vars := "variable \"value\" {}\nvariable \"depends_on\" {}\nvariable \"for_each\" {}\nvariable \"count\" {}\nvariable \"id\" {}"
	want := "\"\"; call var@0 to 1 [id=0@15 count=1@22 for_each=2@32 depends_on=3@45 value=4@60]\n\"each/\"; var value=-1@0; var depends_on=-1@20; var for_each=-1@45; var count=-1@68; var id=-1@88"
	checkLoad(t, "", want, "main.hcl", "module \"var\" {"+names+"source = \"each\"\n}", "each/main.hcl", vars)
}

// TestNames has texts that are names, and are of each kind of block.
func TestNames(t *testing.T) {
	long := strings.Repeat("n", api.MaxName)
	for _, name := range []string{"a", "_", "Z9-", "a--b_", "null", "true", "for", "in", "id", "variable", "resource", "lifecycle", long} {
		text := strings.ReplaceAll("variable \"N\" {}\noutput \"N\" { value = 1 }\nresource \"N\" \"N\" {}\nmodule \"N\" { source = \"N\" }", "N", name)
		c, wrong := Load(disk(t, "main.hcl", text, name+"/main.hcl", ""), "")
		if wrong != nil || len(c.Mods) != 2 {
			t.Errorf("P11.1: the name %s: %s", name, toldWrong(wrong))
			continue
		}
		m := c.Mods[0]
		got := []string{m.Vars[0].Name, m.Outputs[0].Name, m.Res[0].Type, m.Res[0].Name, m.Calls[0].Name, c.Mods[1].Dir}
		if want := []string{name, name, name, name, name, name + "/"}; !slices.Equal(got, want) {
			t.Errorf("P11.1: the name %s: %q", name, got)
		}
	}
	for _, name := range []string{"var", "local", "module", "output", "each", "count"} {
		checkLoad(t, "", `""; var `+name+`=-1@0`, "main.hcl", `variable "`+name+`" {}`)
		checkLoad(t, "", `""; t.`+name+`@0 []`, "main.hcl", `resource "t" "`+name+`" {}`)
	}
}

// TestSaid has labels and sources that say a name by other bytes: what they say counts.
func TestSaid(t *testing.T) {
	checkLoad(t, "", `""; a.b@0 []`, "main.hcl", "resource \"a\" /* \"c\" */ \"b\" {}")
	checkLoad(t, "", "\"\"; call m@0 to 1 []\n\"n/\"", "main.hcl", "module \"m\" { source = ((\"n\")) }", "n/main.hcl", "")
}

// TestLifecycle has each thing that one says, and where it may stand.
func TestLifecycle(t *testing.T) {
	for text, want := range map[string]string{
		"":             "",
		"lifecycle {}": "",
		"lifecycle { create_before_destroy = true }":                             " swap",
		"lifecycle { create_before_destroy = false }":                            "",
		"lifecycle { prevent_destroy = true }":                                   " prevent",
		"lifecycle { prevent_destroy = (false) }":                                "",
		"lifecycle {\n create_before_destroy = (true)\n prevent_destroy=true\n}": " swap prevent",
		"lifecycle {\n prevent_destroy = true\n create_before_destroy=false\n}":  " prevent",
	} {
		checkLoad(t, "", `""; t.n@0 []`+want, "main.hcl", "resource \"t\" \"n\" {\n"+text+"\n}")
	}
	between := "resource \"t\" \"n\" {\n a = 1\n lifecycle { prevent_destroy = true }\n count = 2\n b = 3\n}"
	checkLoad(t, "", `""; t.n@0 [a=0@20 b=3@76] count=2 prevent`, "main.hcl", between)
}

// TestDepends has lists of references.
func TestDepends(t *testing.T) {
	for text, want := range map[string]string{
		"[]":                       "",
		"[a]":                      " deps a",
		"[a.b, a.b.c.d, a]":        " deps a.b,a.b.c.d,a",
		"[b.c, a.b, b.c, b.c,]":    " deps b.c,a.b,b.c,b.c",
		"[(a), (a).b, ((a.b).c)]":  " deps a,a.b,a.b.c",
		"([a . b,\n c .\n d])":     " deps a.b,c.d",
		"[var.a, count.index, id]": " deps var.a,count.index,id",
		"[in, if.for, a.null]":     " deps in,if.for,a.null",
	} {
		checkLoad(t, "", `""; t.n@0 []`+want, "main.hcl", "resource \"t\" \"n\" {\ndepends_on = "+text+"\n}")
	}
}
