package config

import (
	"testing"

	"purlin/api"
)

// TestFirstInBlock has blocks with several things wrong: which is told.
func TestFirstInBlock(t *testing.T) {
	for text, code := range map[string]api.Errno{
		"^variable {\nx = 1\n}":                                                                 api.ErrBlock,
		"^resource \"var\" \"n\" {\nid = 1\n}":                                                  api.ErrBlock,
		"^nope {\nx = 1\nx = 2\n}":                                                              api.ErrBlock,
		"^variable \"a\" \"b\" {\ndefault = 1\ndefault = 2\n}":                                  api.ErrBlock,
		"variable \"a\" {\n^x = 1\nx = 2\n}":                                                    api.ErrBlock,
		"variable \"a\" {\ndefault = 1\n^default = 2\nx = 2\n}":                                 api.ErrTwice,
		"variable \"a\" {\n^x = 1\ndefault = 1\ndefault = 2\n}":                                 api.ErrBlock,
		"resource \"t\" \"n\" {\ndepends_on = []\n^depends_on = 1\n}":                           api.ErrTwice,
		"resource \"t\" \"n\" {\n^depends_on = 1\ndepends_on = 1\n}":                            api.ErrBlock,
		"resource \"t\" \"n\" {\n^id = 1\nid = 1\n}":                                            api.ErrBlock,
		"resource \"t\" \"n\" {\ncount = 1\ncount {}\n^count = 1\nfor_each = 1\n}":              api.ErrTwice,
		"module \"m\" {\nsource = \"n\"\n^source = 1\n}":                                        api.ErrTwice,
		"module \"m\" {\n^source = 1\nsource = 1\n}":                                            api.ErrBlock,
		"resource \"t\" \"n\" {\nx {}\n^id = 1\n}":                                              api.ErrBlock,
		"resource \"t\" \"n\" {\nlifecycle {}\nlifecycle {}\na = 1\n^a = 2\n}":                  api.ErrTwice,
		"locals {\nx {}\na = 1\n^a = 1\n}":                                                      api.ErrTwice,
		"output \"o\" {\n^x {}\n}":                                                              api.ErrBlock,
		"module \"m\" {\n^x {}\n}":                                                              api.ErrBlock,
		"resource \"t\" \"n\" {\n^lifecycle \"a\" {\nx = 1\n}\n}":                               api.ErrBlock,
		"resource \"t\" \"n\" {\n^x {\nprevent_destroy = 1\n}\n}":                               api.ErrBlock,
		"resource \"t\" \"n\" {\nlifecycle {\nx {}\n^y = 1\n}\n}":                               api.ErrBlock,
		"resource \"t\" \"n\" {\nlifecycle {\nprevent_destroy = true\n^prevent_destroy = 1\n}}": api.ErrTwice,
		"resource \"t\" \"n\" {\nlifecycle {\n^x {}\ny {}\n}\nlifecycle {}\n}":                  api.ErrBlock,
		"resource \"t\" \"n\" {\nlifecycle {\n^y = 1\n}\nlifecycle {}\nx {}\n}":                 api.ErrBlock,
		"resource \"t\" \"n\" {\nlifecycle {}\n^x {}\nlifecycle {}\n}":                          api.ErrBlock,
		"resource \"t\" \"n\" {\nlifecycle {}\n^lifecycle \"a\" {\nx = 1\n}\nx {}\n}":           api.ErrTwice,
		"output \"o\" {\nvalue = 1\n^x {}\nvalue {}\n}":                                         api.ErrBlock,
	} {
		checkMarked(t, code, "main.hcl", text)
	}
}

// TestFirstOfNames has blocks that are declared already, with something else wrong.
func TestFirstOfNames(t *testing.T) {
	for text, code := range map[string]api.Errno{
		"variable \"a\" {}\nvariable \"a\" {\n^x = 1\n}":                                          api.ErrBlock,
		"variable \"a\" {}\nvariable \"a\" {\n^x {}\n}":                                           api.ErrBlock,
		"output \"a\" { value = 1 }\n^output \"a\" {}":                                            api.ErrBlock,
		"module \"a\" { source = \"n\" }\n^module \"a\" {}":                                       api.ErrBlock,
		"resource \"t\" \"n\" {}\nresource \"t\" \"n\" {\n^id = 1\n}":                             api.ErrBlock,
		"resource \"t\" \"n\" {}\nresource \"t\" \"n\" {\nlifecycle {}\n^lifecycle {}\n}":         api.ErrTwice,
		"resource \"t\" \"n\" {}\nresource \"t\" \"n\" {\nlifecycle {\n^x = 1\n}\n}":              api.ErrBlock,
		"locals { a = 1 }\nlocals {\nx {}\nb = 1\n^a = 2\nb = 3\n}":                               api.ErrTwice,
		"locals { a = 1 }\nlocals {\nb = 1\n^b = 3\na = 2\n}":                                     api.ErrTwice,
		"locals { a = 1 }\n^locals \"a\" { a = 1 }":                                               api.ErrBlock,
		"variable \"a\" {}\n^variable \"a\" {}\nvariable \"b\" {\nx = 1\n}":                       api.ErrTwice,
		"variable \"a\" {}\nvariable \"b\" {\n^x = 1\n}\nvariable \"a\" {}":                       api.ErrBlock,
		"module \"m\" { source = \"n\" }\nmodule \"m\" {\nsource = \"n\"\na = 1\n^a = 1\nx {}\n}": api.ErrTwice,
	} {
		checkMarked(t, code, "main.hcl", text)
	}
}

// TestFirstOfSteps has files and modules with several things wrong: which step comes first.
func TestFirstOfSteps(t *testing.T) {
	const call, gone = "module \"m\" {\nsource = \"n\"\n}\n", "module \"g\" {\nsource = \"gone\"\n}\n"
	for _, c := range []struct {
		code  api.Errno
		files []string
	}{
		{api.ErrSyntax, []string{"main.hcl", "nope {}\nx ^= 1"}},
		{api.ErrLex, []string{"main.hcl", "nope {}\n^~"}},
		{api.ErrBlock, []string{"main.hcl", gone + "^nope {}"}},
		{api.ErrTwice, []string{"main.hcl", call + "variable \"a\" {}\n^variable \"a\" {}", "n/main.hcl", "nope {}"}},
		{api.ErrBlock, []string{"main.hcl", call + gone, "n/main.hcl", "^nope {}"}},
		{api.ErrSyntax, []string{"main.hcl", call + gone, "n/main.hcl", "x ^= 1"}},
		{api.ErrBlock, []string{"main.hcl", "module \"m\" {\nsource = \"n\"\nq = 1\n}", "n/main.hcl", "variable \"a\" {}\n^nope {}"}},
		{api.ErrBlock, []string{"main.hcl", "module \"m\" {\nsource = \"n\"\nq = 1\n}", "n/main.hcl", call, "n/n/main.hcl", "^nope {}"}},
		{api.ErrName, []string{"main.hcl", "module \"m\" {\nsource = \"n\"\nq = 1\n}", "n/main.hcl", "module \"m\" {\nsource = \"n\"\n ^q = 1\n}", "n/n/main.hcl", ""}},
		{api.ErrName, []string{"main.hcl", "module \"m\" {\nsource = \"n\"\n^q = 1\n}\n" + gone, "n/main.hcl", ""}},
		{api.ErrBlock, []string{"main.hcl", "^" + call + gone, "n/main.hcl", "variable \"a\" {}"}},
		{api.ErrName, []string{"main.hcl", "module \"m\" {\n^q = 1\nsource = \"n\"\nr = 2\n}", "n/main.hcl", "variable \"a\" {}"}},
		{api.ErrName, []string{"main.hcl", "module \"m\" {\nsource = \"n\"\na = 1\n^r = 2\n}", "n/main.hcl", "variable \"b\" {}\nvariable \"a\" {}"}},
		{api.ErrBlock, []string{"main.hcl", "variable \"a\" {}\n^module \"m\" {\nsource = \"n\"\na = 1\n}\n" + gone, "n/main.hcl", "variable \"a\" {}\nvariable \"b\" { default = 1 }\nvariable \"c\" {}"}},
	} {
		checkMarked(t, c.code, c.files...)
	}
	checkWrong(t, disk(t, "main.hcl", gone+call, "n/main.hcl", "nope {}"), "", api.Diag{Code: api.ErrModule, File: "gone/main.hcl"})
	checkWrong(t, disk(t, "main.hcl", "module \"m\" {\nsource = \"n\"\nq = 1\n}", "n/main.hcl", gone), "", api.Diag{Code: api.ErrModule, File: "n/gone/main.hcl"})
}
