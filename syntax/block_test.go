package syntax

import (
	"testing"

	"purlin/api"
)

// TestEmpty has files without a block.
func TestEmpty(t *testing.T) {
	for _, text := range []string{"", "\n", "\n\n\n", " \t\r", "# a", "// a\n# b\n/* c\n*/", "/**/\n"} {
		checkFile(t, text, api.File{})
	}
}

func TestBlocks(t *testing.T) {
	one := func(b api.Block) api.File { return api.File{Blocks: []api.Block{b}, Top: []int{0}} }
	for text, want := range map[string]api.File{
		"a{}":               one(api.Block{Type: "a"}),
		"\n\n a {}":         one(api.Block{Type: "a", At: 3}),
		"a {\n}\n":          one(api.Block{Type: "a"}),
		"a {\n\n\n}\n\n":    one(api.Block{Type: "a"}),
		"a{}#":              one(api.Block{Type: "a"}),
		"for {}":            one(api.Block{Type: "for"}),
		"null {}":           one(api.Block{Type: "null"}),
		"in \"for\" {}":     one(api.Block{Type: "in", Labels: []string{"for"}}),
		"a \"\" \"\" {}":    one(api.Block{Type: "a", Labels: []string{"", ""}}),
		"a\"b\"\"b\"{}":     one(api.Block{Type: "a", Labels: []string{"b", "b"}}),
		`a "\n\"\\\$\t" {}`: one(api.Block{Type: "a", Labels: []string{"\n\"\\$\t"}}),
		`a "\${b}" "$" {}`:  one(api.Block{Type: "a", Labels: []string{"${b}", "$"}}),
		`a "\\" "{" {}`:     one(api.Block{Type: "a", Labels: []string{`\`, "{"}}),
		"a {}\nb {}":        {Blocks: []api.Block{{Type: "a"}, {Type: "b", At: 5}}, Top: []int{0, 1}},
		"a {}\n\n# c\nb {}": {Blocks: []api.Block{{Type: "a"}, {Type: "b", At: 10}}, Top: []int{0, 1}},
		"a { b {} }":        {Blocks: []api.Block{{Type: "b", At: 4}, {Type: "a", Blocks: []int{0}}}, Top: []int{1}},
		"a {b{c{}}}":        {Blocks: []api.Block{{Type: "c", At: 5}, {Type: "b", At: 3, Blocks: []int{0}}, {Type: "a", Blocks: []int{1}}}, Top: []int{2}},
		"a {\nb {}\nb {}\n}": {
			Blocks: []api.Block{{Type: "b", At: 4}, {Type: "b", At: 9}, {Type: "a", Blocks: []int{0, 1}}},
			Top:    []int{2},
		},
		"a \"x\" {\n b \"y\" \"z\" {\n }\n}\nc {\n d {}}": {
			Blocks: []api.Block{{Type: "b", Labels: []string{"y", "z"}, At: 9}, {Type: "a", Labels: []string{"x"}, Blocks: []int{0}}, {Type: "d", At: 31}, {Type: "c", At: 26, Blocks: []int{2}}},
			Top:    []int{1, 3},
		},
	} {
		checkFile(t, text, want)
	}
}

// TestAttrs has attributes and blocks beside one another, each in its own order.
func TestAttrs(t *testing.T) {
	checkFile(t, "a {\n x = 1\n b { y = 2 }\n\n x = z # r\n c {}}", api.File{
		Exprs: []api.Expr{{Kind: api.XInt, Text: "1", At: 9}, {Kind: api.XInt, Text: "2", At: 20}, {Kind: api.XName, Text: "z", At: 30}},
		Blocks: []api.Block{
			{Type: "b", Attrs: []api.Attr{{Name: "y", Expr: 1, At: 16}}, At: 12},
			{Type: "c", At: 37},
			{Type: "a", Attrs: []api.Attr{{Name: "x", Expr: 0, At: 5}, {Name: "x", Expr: 2, At: 26}}, Blocks: []int{0, 1}},
		},
		Top: []int{2},
	})
	checkFile(t, "a {for=1\nin=[2]\nnull=3\n}\n", api.File{
		Exprs: []api.Expr{{Kind: api.XInt, Text: "1", At: 7}, {Kind: api.XInt, Text: "2", At: 13}, {Kind: api.XList, Args: []int{1}, At: 12}, {Kind: api.XInt, Text: "3", At: 21}},
		Blocks: []api.Block{
			{Type: "a", Attrs: []api.Attr{{Name: "for", Expr: 0, At: 3}, {Name: "in", Expr: 2, At: 9}, {Name: "null", Expr: 3, At: 16}}},
		},
		Top: []int{0},
	})
	checkFile(t, "a {\n x = {\n y = 1\n }\n z = (\n2\n)}", api.File{
		Exprs: []api.Expr{{Kind: api.XInt, Text: "1", At: 16}, {Kind: api.XObject, Args: []int{0}, Keys: []string{"y"}, At: 9}, {Kind: api.XInt, Text: "2", At: 28}},
		Blocks: []api.Block{
			{Type: "a", Attrs: []api.Attr{{Name: "x", Expr: 1, At: 5}, {Name: "z", Expr: 2, At: 22}}},
		},
		Top: []int{0},
	})
	checkFile(t, "a {}\nb {\n x = y }", api.File{
		Exprs:  []api.Expr{{Kind: api.XName, Text: "y", At: 14}},
		Blocks: []api.Block{{Type: "a"}, {Type: "b", Attrs: []api.Attr{{Name: "x", Expr: 0, At: 10}}, At: 5}},
		Top:    []int{0, 1},
	})
}

// TestNoFile has what can't stand where blocks and attributes do.
func TestNoFile(t *testing.T) {
	for _, marked := range []string{
		"\x01=", "\x01{}", "\x01\"a\" {}", "\x011", "\n\n \x01}", "\x01( a )", "\x01<<E\nE\n",
		"a\x01", "a\x01\n{}", "a \x01\n", "a \x01b {}", "a \x01= 1", "x \x01= {}", "a \x011 {}", "a \x01[]", "a \x01}", "a \x01. b {}",
		"a \"b\"\x01", "a \"b\"\x01\n{}", "a \"b\" \x01c {}", "a \"b\" \x01= 1", "a \"b\" \x01}",
		"a \x01\"${b}\" {}", "a \"b\" \x01\"c${d}e\" {}", "a \x01\"${~}\" {}", "a \x01\"$${}\"", "a \x01\"\\\\${b}\" {}", "a <<E\nb\nE\x01\n{}",
		"a {\x01", "a { \x01{} }", "a { \x01\"b\" }", "a { \x011 }", "a { \x01= 1 }", "a { \x01, }", "a { \x01( }", "a {\n\n\x01]", "a {\x01{",
		"a { x\x01", "a { x \x01}", "a { x\x01\n}", "a { x \x01y }", "a { x \x01: 1 }", "a { x \x01== 1 }", "a { x \x01. y = 1 }", "a { x \x01[0] = 1 }", "a { x \x011 }",
		"a { x = \x01}", "a { x = \x01", "a { x =\x01\n1 }", "a { x = \x01= 1 }", "a { x = 1 \x01y = 2 }", "a { x = 1 \x01b {} }", "a { x = 1\x01, y = 2 }", "a { x = 1\x01", "a { x = 1 \x01= 2 }", "a { x = y \x01= 2 }",
		"a { x = y \x01{} }", "a { x = y \x01\"b\" {} }", "a { x = 1 \x01{", "a { x = {} \x01{} }", "a { x = 1 \x01] }", "a { x = 1 \x01) }", "a { x = 1 \x01: 2 }",
		"a { b {} \x01c {} }", "a { b {} \x01x = 1 }", "a { b {}\x01, }", "a { b {}\x01", "a { b {} \x01= }", "a {\n\x01\"b\" }", "a { b \"c\" \x01= 1 }", "a { b \x01\"${c}\" {} }", "a { b\x01\n{} }",
		"a {} \x01b {}", "a {} \x01}", "a {}\x01{}", "a {} \x01\"b\"", "a {} \x01= 1", "a {}\n\x01}", "a {}\n\x01=", "a {}\nb \x01c", "a {}\nb\x01", "a {}\nb {\x01", "a {\n}\n\x011",
	} {
		checkMarked(t, marked, api.ErrSyntax)
	}
}

// TestScanned has texts that Scan refuses: that is told, whatever stands ahead of it.
func TestScanned(t *testing.T) {
	checkWrong(t, "a { x = ~ }", api.ErrLex, 8)
	checkWrong(t, "= = ~", api.ErrLex, 4)
	checkWrong(t, "a { x = {k = 1, k = 2} }\n&", api.ErrLex, 25)
	checkWrong(t, "a { x = \"${~}\" } 1x", api.ErrLex, 17)
	checkWrong(t, "= \xff", api.ErrText, 2)
	checkWrong(t, "= a23456789012345678901234567890123", api.ErrLong, 2)
	checkWrong(t, "= \"${{{{{{{{{{{{{{{{{{{{{{{{{{{{{{\"", api.ErrDeep, 2)
	checkWrong(t, "a { x = \"", api.ErrLex, 8)
}
