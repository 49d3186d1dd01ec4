package config

import (
	"strings"
	"testing"

	"purlin/api"
)

// checkBlock wants ErrBlock at the mark of each text, which is the root's file.
func checkBlock(t *testing.T, marked ...string) {
	t.Helper()
	for _, text := range marked {
		checkMarked(t, api.ErrBlock, "main.hcl", text, "n/main.hcl", "")
	}
}

// checkTwice wants ErrTwice likewise.
func checkTwice(t *testing.T, marked ...string) {
	t.Helper()
	for _, text := range marked {
		checkMarked(t, api.ErrTwice, "main.hcl", text, "n/main.hcl", "")
	}
}

// TestTypes has outmost blocks of other types.
func TestTypes(t *testing.T) {
	checkBlock(t, "^nope {}", "^lifecycle {}", "^Variable \"a\" {}", "^local { a = 1 }", "^var \"a\" {}", "^provider \"a\" {}", "^resources \"t\" \"n\" {}", "variable \"a\" {}\n  ^x {}", "^_ {}", "^for {}")
}

// TestLabels has blocks with more labels than they are to have, with fewer, and with ones that are no names.
func TestLabels(t *testing.T) {
	checkBlock(t, "^variable {}", `^variable "a" "b" {}`, `^locals "a" {}`, `^locals "a" "b" { c = 1 }`, "^output { value = 1 }", `^output "a" "b" { value = 1 }`, "^resource {}", `^resource "t" {}`, `^resource "t" "n" "m" {}`, `^module { source = "n" }`, `^module "a" "b" { source = "n" }`)
	long := strings.Repeat("n", api.MaxName+1)
	for _, wrong := range []string{"", "1", "1a", "-a", "a.b", "a b", " a", "a ", "a/", `a\n`, `\"a\"`, `\$`, "a#", "/**/a", "\u00e9", "a\u00e9", `a\t`, long} {
		wrong = `"` + wrong + `"`
		checkBlock(t, "^variable "+wrong+" {}", "^output "+wrong+" { value = 1 }", "^resource "+wrong+` "n" {}`, `^resource "t" `+wrong+" {}", "^module "+wrong+` { source = "n" }`, "module \"m\" {\n^source = "+wrong+"\n}")
	}
	checkBlock(t, "module \"m\" {\n ^source = <<E\nn\nE\n}")
	checkMarked(t, api.ErrSyntax, "main.hcl", `variable ^"${a}" {}`)
}

// TestTakenTypes has types of resources that mean something else.
func TestTakenTypes(t *testing.T) {
	for _, name := range []string{"var", "local", "module", "output", "each", "count"} {
		checkBlock(t, `^resource "`+name+`" "n" {}`)
	}
	for _, name := range []string{"vars", "locals", "Var", "data", "resource", "variable", "self"} {
		checkLoad(t, "", `""; `+name+`.n@0 []`, "main.hcl", `resource "`+name+`" "n" {}`)
	}
}

// TestAttrs has attributes that may not stand there, or come twice.
func TestAttrs(t *testing.T) {
	checkBlock(t, `variable "a" { ^x = 1 }`, `variable "a" { ^Default = 1 }`, "variable \"a\" {\ndefault = 1\n ^value = 2\n}", `output "o" { ^default = 1 }`, "output \"o\" {\nvalue = 1\n^x = 2\n}", `resource "t" "n" { ^id = 1 }`, "resource \"t\" \"n\" {\na = 1\n^id = null\n}")
	checkTwice(t, "variable \"a\" {\ndefault = 1\n^default = 1\n}", "output \"o\" {\nvalue = 1\n^value = 2\n}", "locals {\na = 1\nb = 2\n^a = 3\n}", "resource \"t\" \"n\" {\na = 1\nb = 2\n^b = 3\na = 4\n}", "resource \"t\" \"n\" {\ncount = 1\n^count = 1\n}", "resource \"t\" \"n\" {\nfor_each = 1\n^for_each = 1\n}", "resource \"t\" \"n\" {\ndepends_on = []\n^depends_on = []\n}", "module \"m\" {\nsource = \"n\"\n^source = \"n\"\n}", "module \"m\" {\na = 1\n^a = 1\nsource = \"n\"\n}")
}

// TestCountAndEach has both: the one behind is wrong.
func TestCountAndEach(t *testing.T) {
	checkBlock(t, "resource \"t\" \"n\" {\ncount = 1\n^for_each = {}\n}", "resource \"t\" \"n\" {\nfor_each = {}\na = 1\n^count = 1\n}", "resource \"t\" \"n\" {\ncount = 1\n^for_each = {}\ncount = 1\n}")
	checkLoad(t, "", "\"\"; t.n@0 [] count=0; t.m@35 [] each=1", "main.hcl", "resource \"t\" \"n\" { count = \"any\" }\nresource \"t\" \"m\" { for_each = 1 }")
}

// TestDependsRefused has what is no list of references.
func TestDependsRefused(t *testing.T) {
	for _, text := range []string{"a", "a.b", "1", "null", `"a.b"`, "{}", "{a = b}", "f()", "f(a)", "[for v in l : v]", "[1]", "[a, 1]", `["a"]`, "[a[0]]", "[a[0].b]", "[a.b[0]]", `[a["b"]]`, "[a[*].b]", "[a[*].b.c]", "[null]", "[true]", "[null.a]", "[f(a)]", "[f(a).b]", "[{a = b}.a]", "[-a]", "[!a]", "[a + b]", "[a == b]", "[[a]]", "[a.b, c ? a : b]", `["${a}"]`, "a ? [a] : [b]", "[a][0]", "[[a]][0].b", "concat([a], [b])"} {
		checkBlock(t, "resource \"t\" \"n\" {\na = 1\n ^depends_on = "+text+"\n}")
	}
}

// TestSourceRefused has what is no text, or one that is no name.
func TestSourceRefused(t *testing.T) {
	for _, text := range []string{"n", "1", "null", "true", `["n"]`, `{n = "n"}`, `"n"[0]`, "local.n", `"${n}"`, `"n${1}"`, `upper("n")`, `true ? "n" : "n"`, `"./n"`, `"../n"`, `"/n"`, `"n/"`, `"n/m"`, `"."`, `".."`} {
		checkBlock(t, "module \"m\" {\na = 1\n ^source = "+text+"\n}")
	}
}

// TestWithin has blocks within others that may not stand there, and a lifecycle twice.
func TestWithin(t *testing.T) {
	checkBlock(t, `variable "a" { ^b {} }`, "locals {\na = 1\n ^lifecycle {}\n}", "output \"o\" {\nvalue = 1\n^x {}\n}", "module \"m\" {\nsource = \"n\"\n^lifecycle {}\n}", "module \"m\" {\n^providers {}\nsource = \"n\"\n}")
	checkBlock(t, "resource \"t\" \"n\" {\n^x {}\n}", "resource \"t\" \"n\" {\n^resource \"t\" \"m\" {}\n}", "resource \"t\" \"n\" {\n^Lifecycle {}\n}", "resource \"t\" \"n\" {\n^lifecycle \"a\" {}\n}", "resource \"t\" \"n\" {\nlifecycle {}\n^x {}\n}", "resource \"t\" \"n\" {\n^x {}\nlifecycle {}\n}", "resource \"t\" \"n\" {\n^x {}\nx {}\n}")
	checkTwice(t, "resource \"t\" \"n\" {\nlifecycle {}\n^lifecycle {}\n}", "resource \"t\" \"n\" {\nlifecycle { prevent_destroy = true }\na = 1\n^lifecycle { create_before_destroy = true }\n}", "resource \"t\" \"n\" {\nlifecycle {}\n^lifecycle \"a\" {}\nlifecycle {}\n}")
}

// TestLifecycleRefused has what one may not have.
func TestLifecycleRefused(t *testing.T) {
	lifecycle := func(text string) string {
		return "resource \"t\" \"n\" {\nlifecycle {\n" + text + "\n}\n}"
	}
	for _, name := range []string{"create_before_destroy", "prevent_destroy"} {
		for _, text := range []string{"1", "null", `"true"`, "!false", "a", "var.a", "true && true", "true == true", "[true]", "true ? true : true", `"${true}"`, "{}"} {
			checkBlock(t, lifecycle("^"+name+" = "+text))
		}
		checkTwice(t, lifecycle(name+" = true\n^"+name+" = true"), lifecycle(name+" = true\n^"+name+" = 1"))
	}
	checkBlock(t, lifecycle("^ignore_changes = true"), lifecycle("^id = true"), lifecycle("prevent_destroy = true\n^count = 1"), lifecycle("^x {}"), lifecycle("^lifecycle {}"), lifecycle("prevent_destroy = true\n ^precondition {\n}\nlifecycle {}"))
}

// TestLacks has blocks that lack what they may not.
func TestLacks(t *testing.T) {
	checkBlock(t, `^output "o" {}`, "output \"p\" { value = 1 }\n ^output \"o\" {\n}", `^module "m" {}`, "^module \"m\" {\na = 1\nb = 2\n}")
}

// TestDeclaredTwice has names that are declared already.
func TestDeclaredTwice(t *testing.T) {
	checkTwice(t, "variable \"a\" {}\nvariable \"b\" {}\n^variable \"a\" {}", "variable \"a\" {}\n ^variable \"a\" { default = 1 }", "output \"o\" { value = 1 }\n^output \"o\" { value = 1 }", "locals { a = 1 }\nlocals {\nb = 2\n ^a = 1\n}", "locals {\na = 1\n}\nvariable \"a\" {}\nlocals { ^a = 2 }")
	checkTwice(t, "resource \"t\" \"n\" {}\nresource \"t\" \"m\" {}\n^resource \"t\" \"n\" { a = 1 }", "module \"m\" { source = \"n\" }\n^module \"m\" { source = \"other\" }")
}
