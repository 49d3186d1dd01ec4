package syntax

import (
	"strings"
	"testing"

	"purlin/api"
)

// TestTexts has texts without an insertion, and what they say.
func TestTexts(t *testing.T) {
	for text, said := range map[string]string{
		`""`:                      "",
		`"a"`:                     "a",
		`" a b "`:                 " a b ",
		`"\n\t\r"`:                "\n\t\r",
		`"\"\\\$"`:                `"\$`,
		`"\\n"`:                   `\n`,
		`"\\\n"`:                  "\\\n",
		`"a\nb\\"`:                "a\nb\\",
		`"\${a}"`:                 "${a}",
		`"\${"`:                   "${",
		`"$"`:                     "$",
		`"$$a{b}$ {c} }{"`:        "$$a{b}$ {c} }{",
		`"$\"{"`:                  `$"{`,
		`"$\n{a}"`:                "$\n{a}",
		`"\\\${a}"`:               `\${a}`,
		`"# a // b /* c"`:         "# a // b /* c",
		"\"\t\r\x00\"":            "\t\r\x00",
		"\"é€😀\ufffd\"":           "é€😀\ufffd",
		"\"\\né\\t\"":             "\né\t",
		"<<E\nE":                  "",
		"<<E\na\nE":               "a\n",
		"<<E\n\n a\t\nE":          "\n a\t\n",
		"<<E\na\\n\"b$c\n${d}\nE": "a\\n\"b$c\n${d}\n",
		"<<E\n\\\\ \\$ \\\nE":     "\\\\ \\$ \\\n",
		"<<E\nr\r\nE":             "r\r\n",
		"<<EE\n  E\n\tEE":         "  E\n",
	} {
		f, wrong := Parse("a {\nx = " + text + "\n}")
		want := api.Expr{Kind: api.XText, Text: said, At: 8}
		if wrong != nil || len(f.Exprs) != 1 || show(f.Exprs[0], 0) != show(want, 0) {
			t.Errorf("P5.1: %q: %s, %+v, want %s", text, shows(f, 0), wrong, show(want, 0))
		}
		if text[0] == '"' {
			checkFile(t, "b "+text+"{}", api.File{Blocks: []api.Block{{Type: "b", Labels: []string{said}}}, Top: []int{0}})
			checkExpr(t, "{"+text+" = 1}", `int:"1"@`+show(api.Expr{At: len(text) + 4}, 0)[2:]+" "+show(api.Expr{Kind: api.XObject, Args: []int{0}, Keys: []string{said}}, 0))
		}
	}
}

func TestTemplates(t *testing.T) {
	for text, want := range map[string]string{
		`"${a}"`:                     `name:"a"@3 template,0["e"]@0`,
		`"p${q}"`:                    `text:"p"@1 name:"q"@4 template,0,1["t" "e"]@0`,
		`"${q}s"`:                    `name:"q"@3 text:"s"@5 template,0,1["e" "t"]@0`,
		`"p${q}${1}"`:                `text:"p"@1 name:"q"@4 int:"1"@8 template,0,1,2["t" "e" "e"]@0`,
		`"p${q}\n"`:                  `text:"p"@1 name:"q"@4 text:"\n"@6 template,0,1,2["t" "e" "t"]@0`,
		`" ${ q } "`:                 `text:" "@1 name:"q"@5 text:" "@8 template,0,1,2["t" "e" "t"]@0`,
		`"${a} ${b}"`:                `name:"a"@3 text:" "@5 name:"b"@8 template,0,1,2["e" "t" "e"]@0`,
		`"$${a}"`:                    `text:"$"@1 name:"a"@4 template,0,1["t" "e"]@0`,
		`"$$${a}$"`:                  `text:"$$"@1 name:"a"@5 text:"$"@7 template,0,1,2["t" "e" "t"]@0`,
		`"\$${a}"`:                   `text:"$"@1 name:"a"@5 template,0,1["t" "e"]@0`,
		`"\\${a}"`:                   `text:"\\"@1 name:"a"@5 template,0,1["t" "e"]@0`,
		`"\${${a}\$"`:                `text:"${"@1 name:"a"@6 text:"$"@8 template,0,1,2["t" "e" "t"]@0`,
		`"${a}}"`:                    `name:"a"@3 text:"}"@5 template,0,1["e" "t"]@0`,
		`"{${a}{"`:                   `text:"{"@1 name:"a"@4 text:"{"@6 template,0,1,2["t" "e" "t"]@0`,
		`"é${a}é"`:                   `text:"é"@1 name:"a"@5 text:"é"@7 template,0,1,2["t" "e" "t"]@0`,
		`"${1 + 2}"`:                 `int:"1"@3 int:"2"@7 add,0,1@5 template,2["e"]@0`,
		`"${-a}"`:                    `name:"a"@4 neg,0@3 template,1["e"]@0`,
		`"${a ? b : c}"`:             `name:"a"@3 name:"b"@7 name:"c"@11 cond,0,1,2@5 template,3["e"]@0`,
		`"${(a)}"`:                   `name:"a"@4 template,0["e"]@0`,
		`"${[a, 1]}"`:                `name:"a"@4 int:"1"@7 list,0,1@3 template,2["e"]@0`,
		`"${{}}"`:                    `object@3 template,0["e"]@0`,
		`"${{a = {b = 1}}}"`:         `int:"1"@13 object,0["b"]@8 object,1["a"]@3 template,2["e"]@0`,
		`"${f("}", g)}"`:             `text:"}"@5 name:"g"@10 call:"f",0,1@3 template,2["e"]@0`,
		`"${"a"}"`:                   `text:"a"@3 template,0["e"]@0`,
		`"${"\"\n"}"`:                `text:"\"\n"@3 template,0["e"]@0`,
		`"${"${a}"}"`:                `name:"a"@6 template,0["e"]@3 template,1["e"]@0`,
		`"b${"c${a}d"}e"`:            `text:"b"@1 text:"c"@5 name:"a"@8 text:"d"@10 template,1,2,3["t" "e" "t"]@4 text:"e"@13 template,0,4,5["t" "e" "t"]@0`,
		`"${"\${"}${"}"}"`:           `text:"${"@3 text:"}"@11 template,0,1["e" "e"]@0`,
		`"${a # b}"`:                 `name:"a"@3 template,0["e"]@0`,
		`"${a // b}"`:                `name:"a"@3 template,0["e"]@0`,
		`"${/* b */ a}"`:             `name:"a"@11 template,0["e"]@0`,
		`"${a.b[0]}"`:                `name:"a"@3 attr:"b",0@4 int:"0"@7 index,1,2@6 template,3["e"]@0`,
		`"${a}" + "${b}"`:            `name:"a"@3 template,0["e"]@0 name:"b"@12 template,2["e"]@9 add,1,3@7`,
		`["${a}", ("b${c}")]`:        `name:"a"@4 template,0["e"]@1 text:"b"@11 name:"c"@14 template,2,3["t" "e"]@10 list,1,4@0`,
		`{k = "${a}"}`:               `name:"a"@8 template,0["e"]@5 object,1["k"]@0`,
		`"${[for v in l : "${v}"]}"`: `name:"l"@13 name:"v"@20 template,1["e"]@17 for:"v",0,2@3 template,3["e"]@0`,
	} {
		checkExpr(t, text, want)
	}
	checkExpr(t, `"${{"}" = "{"}}"`, `text:"{"@10 object,0["}"]@3 template,1["e"]@0`)
	checkExpr(t, `"${{"}" = "{"}}}"`, `text:"{"@10 object,0["}"]@3 text:"}"@15 template,1,2["e" "t"]@0`)
}

// TestWrongInsertions has insertions that are no expression, or more than one: what is wrong is told in the whole text.
func TestWrongInsertions(t *testing.T) {
	for _, marked := range []string{
		"\"${\x01}\"", "\"${ \x01}\"", "\"a${b}${\x01}\"", "\"${#\x01}\"", "\"${ // a \x01}\"",
		"\"${a \x01b}\"", "\"${1 \x012}\"", "\"${a\x01, b}\"", "\"${a \x01= b}\"", "\"${\x01= b}\"", "\"${\x01:a}\"", "\"${1 +\x01}\"", "\"${1 + \x01* 2}\"", "\"${(a\x01}\"", "\"${\x01)}\"", "\"${a\x01)}\"", "\"${[a\x01}\"", "\"${\x01]}\"", "\"${a.\x01}\"", "\"${a ? b\x01}\"", "\"${\x01for}\"", "\"${a \x01\"b\"}\"", "\"${a \x01{}}\"", "\"${{a\x01}}\"", "\"${{a = 1 \x01b = 2}}\"", "\"${{\x01,}}\"",
		"\"b${c}d${\x01}\"", "\"\\n${\x01}\"", "\"é${\x01}\"", "\"${\"${\x01}\"}\"", "\"a${\"b${c \x01d}\"}\"", "\"${a \x01b} ${c d}\"", "\"${{\x01\"${a}\" = 1}}\"", "[1, \"${a \x01b}\"]", "{k = \"${a \x01b}\"}", "-\"${\x01}\"",
	} {
		checkMarked(t, "a {x = "+marked+"\n}", api.ErrSyntax)
	}
	for marked, code := range map[string]api.Errno{
		"\"${\x01~}\"":           api.ErrLex,
		"\"${a \x01& b}\"":       api.ErrLex,
		"\"${a + + \x01~}\"":     api.ErrLex,
		"\"${\x011x}\"":          api.ErrLex,
		"\"${a \x01/* b}\"":      api.ErrLex,
		"\"${\x01\\}\"":          api.ErrLex,
		"\"${\x01$}\"":           api.ErrLex,
		"\"${\x01<<E}\"":         api.ErrLex,
		"\"b${c}d${ \x01~}\"":    api.ErrLex,
		"\"b${\"c${ \x01~}\"}\"": api.ErrLex,
		"\"${\x01a23456789012345678901234567890123}\"":            api.ErrLong,
		"\"${ \x011" + strings.Repeat("0", 100) + "}\"":           api.ErrLong,
		"\"b${" + strings.Repeat("+", api.MaxTokens) + "\x01+}\"": api.ErrLong,
		"\"${{k = 1, \x01k = 2}}\"":                               api.ErrTwice,
		"\"b${\"c${{k = 1, \x01k = 2}}\"}\"":                      api.ErrTwice,
	} {
		checkMarked(t, "a {x = "+marked+"\n}", code)
	}
	checkMarked(t, "a {x = \"b${\x01"+strings.Repeat("+", api.MaxTokens)+"}\"}", api.ErrSyntax)
}

// TestTwice has keys that an object has already.
func TestTwice(t *testing.T) {
	for _, marked := range []string{
		"{k = 1, \x01k = 2}", "{k = 1\n\x01k = 2}", "{k = 1, l = 2, \x01k = 3}", "{k = 1, l = 2, \x01l = 3, k = 4}", "{k = 1, \x01\"k\" = 2}", "{\"k\" = 1, \x01k = 2}", "{\"k l\" = 1, \x01\"k l\" = 2}", "{\"\" = 1,\n\x01\"\" = 2}",
		"{\"\\n\" = 1, \"n\" = 2, \x01\"\\n\" = 3}", "{\"\\\\\" = 1, \x01\"\\\\\" = 2}", "{\"\\$\" = 1, \x01\"$\" = 2}", "{\"k\\n\" = 1\n\x01<<E\nk\nE\n}",
		"{a = {k = 1, \x01k = 2}, a = 3}", "{a = {k = 1}, \x01a = {k = 1}}", "{k = {k = 1}, \x01k = 2}", "{k = {\nk = {k = 1, \x01k = 2}}}", "[{k = 1}, {k = 1, \x01k = 2}]", "f({for = 1, \x01for = 2})", "{null = 1, \x01null = 2}",
		"{k = 1, \x01k}", "{k = 1, \x01k", "{k = 1, \x01k = }",
	} {
		checkMarked(t, "a {x = "+marked+"\n}", api.ErrTwice)
	}
	checkExpr(t, `{k = 1, K = 2, "k " = 3, "\n" = 4, n = 5}`, `int:"1"@5 int:"2"@12 int:"3"@22 int:"4"@32 int:"5"@39 object,0,1,2,3,4["k" "K" "k " "\n" "n"]@0`)
	checkWrong(t, "a {x = {k = 1, \"k${b}\" = 2}}", api.ErrSyntax, 15)
}
