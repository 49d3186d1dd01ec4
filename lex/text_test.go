package lex

import (
	"strings"
	"testing"

	"purlin/api"
)

func TestTexts(t *testing.T) {
	for _, text := range []string{
		``, `a`, ` `, "\t", "\r", "\x00\x1f\x7f", "\u00e9\u20ac\U0001f600\ufffd", `'`, `#`, `//`, `/*`, `<<E`, `a b`,
		`\"`, `\\`, `\n`, `\t`, `\r`, `\$`, `\\\"`, `a\"b`, `\\n`, `\n\t\r\$\"\\`,
		`$`, `$$`, `$ {`, `$x`, `x$`, `$\"`, `$\n`, `$}`, `{`, `}`, `{{`, `}}`, `{}`, `}{`, `\${`, `\${}`, `\$${}`, `\\${}`, `$\${`,
		`${}`, `${ }`, `a${b}c`, `${a}${b}`, `$${a}`, `$$${a}$`, `${a}}`, `${a}{`,
		`${{}}`, `${{a}{b}}`, `${ {a = {}} }x`, `${$}`, `${${}}`, `${${}}}`,
		`${""}`, `${"a"}`, `${"}"}`, `${"{"}`, `${ {"}"} }x`, `${"\""}`, `${"\\"}`, `${"a${"b"}c"}`, `${"${"${}"}"}`, `${{"${{}}"}}`, `${"a" + "b"}`, `${f("x", {a = "}"})}`,
		`${\}`, `${\\}`, `${\n\q}`, `${\"}"}`, "${~ @ \u00e9 \t\r}", `${ # }`, `${ // }`, `${ /* } */`, `${1x 01 &}`,
	} {
		check(t, `"`+text+`"`, quote(text, 0))
		check(t, ` ="`+text+`"x"`+text+`"`, sign("=", 1), quote(text, 2), name("x", len(text)+4), quote(text, len(text)+5))
		check(t, `"`+text+"\"\"\"\n", quote(text, 0), quote("", len(text)+2), line(len(text)+4))
	}
	check(t, `"a""b"`, quote("a", 0), quote("b", 3))
	check(t, `"${}"}"#"`, quote("${}", 0), sign("}", 5), quote("#", 6))
}

func TestNoText(t *testing.T) {
	for _, text := range []string{
		`"`, `"a`, `"\"`, `"\`, `"a\\\"`, `"$`, `"${`, `"${}`, `"${"`, `"${""`, `"${""}`, `"${"}`, `"${"}"`, `"${{}"`, `"${{"`, `"${a"`, `"${"${"}"`, `"${\"}"`, `"${"\"}"`,
		`"\q"`, `"\ "`, `"\N"`, `"\0"`, `"\u0041"`, `"\'"`, `"\/"`, `"\{"`, `"\}"`, `"a\b"`, `"\\\x"`, "\"\\\u00e9\"", "\"\\\t\"", `"${"\q"}"`, `"${{"\a"}}"`, `"$\{"`,
		"\"\n\"", "\"a\nb\"", "\"\\\n\"", "\"$\n\"", "\"$\n{}\"", "\"${\n}\"", "\"${{\n}}\"", "\"${\"\n\"}\"", "\"${\"\"\n}\"", "\"\r\n\"", "\"a\n",
	} {
		checkWrong(t, text, api.ErrLex, 0)
		checkWrong(t, "a = "+text, api.ErrLex, 4)
		checkWrong(t, `"" `+text, api.ErrLex, 3)
	}
	checkWrong(t, `"a"b"`, api.ErrLex, 4)
}

// nests answers texts that have so many insertions and braces in one another.
func nests(depth int) []string {
	braces, texts, both := "", "", ""
	for range depth - 1 {
		braces = "{" + braces + "}"
		texts = `"a${` + texts + `}b"`
	}
	for i := range depth - 1 {
		if i%2 == 0 {
			both = "{" + both + "}"
		} else {
			both = `"${` + both + `}"`
		}
	}
	return []string{`"${` + braces + `}"`, `"x ${` + texts + `}"`, `"${ ` + both + `}"`, `"${{}""` + braces + `}${}"`}
}

func TestDepth(t *testing.T) {
	for depth := 1; depth <= api.MaxNest; depth++ {
		for _, text := range nests(depth) {
			check(t, text, quote(text[1:len(text)-1], 0))
		}
	}
	for _, depth := range []int{api.MaxNest + 1, api.MaxNest + 2, 60, 1500} {
		for _, text := range nests(depth) {
			checkWrong(t, text, api.ErrDeep, 0)
			checkWrong(t, " a "+text, api.ErrDeep, 3)
		}
	}
	deep := `"${` + strings.Repeat("{", 23)
	shut := strings.Repeat("}", 24)
	for _, text := range []string{`"${` + strings.Repeat("{}", 100) + `}"`, `"` + strings.Repeat("${}", 100) + `"`, deep + strings.Repeat(`"$"`, 50) + shut + `"`, deep + `"{{}{"` + shut + `"`, deep + `"\${"` + shut + `${}"`, deep + "}{}" + shut + `"`, deep + "$" + shut + `"`, `"\` + deep[1:] + `"`, `"` + strings.Repeat("{", 100) + `"`} {
		check(t, text, quote(text[1:len(text)-1], 0))
	}
	for _, text := range []string{deep + `{`, deep + `"${`, deep + "{\n", deep + `{\`, deep + `${`, deep + "}{{", deep + `{` + shut + `}"`, deep + `"$${"`, deep + `"a${"\q`} {
		checkWrong(t, text, api.ErrDeep, 0)
	}
	for _, text := range []string{deep, deep + "\n{", deep + `"\q${`, deep + `"`, deep + `"$`, deep + `"$ {`, deep + shut, deep + shut + "\n" + deep + "{", `"\q` + deep[1:] + "{", "\"\n" + deep[1:] + "{"} {
		checkWrong(t, text, api.ErrLex, 0)
	}
}

func TestHeredocs(t *testing.T) {
	for text, want := range map[string]string{
		"<<E\nE":                               ``,
		"<<E\n \t\tE":                          ``,
		"<<E\n\nE":                             `\n`,
		"<<E\na\nE":                            `a\n`,
		"<<E\n a\t\n  E":                       ` a\t\n`,
		"<<E\na\n\n\tb\nE":                     `a\n\n\tb\n`,
		"<<E\na\"b\\c$d{e}\nE":                 `a\"b\\c\$d{e}\n`,
		"<<E\n${a}\nE":                         `\${a}\n`,
		"<<E\n\"${\nE":                         `\"\${\n`,
		"<<E\n\\n\\$\\\nE":                     `\\n\\\$\\\n`,
		"<<E\na\r\n\r\nE":                      `a\r\n\r\n`,
		"<<E\n'\x00\x1f\x7f\nE":                "'\x00\x1f\x7f\\n",
		"<<E\n\u00e9\u20ac\U0001f600\ufffd\nE": "\u00e9\u20ac\U0001f600\ufffd\\n",
		"<<E\nE \nE":                           `E \n`,
		"<<E\nE\t\nE":                          `E\t\n`,
		"<<E\nE\r\nE":                          `E\r\n`,
		"<<E\n\rE\nE":                          `\rE\n`,
		"<<E\n\u00a0E\nE":                      "\u00a0E\\n",
		"<<E\ne\nEE\nE-\nE1\nxE\nE E\nE#\nE//\nE.\nE": `e\nEE\nE-\nE1\nxE\nE E\nE#\nE//\nE.\n`,
		"<<E\n# a\n/* b\nE":                           `# a\n/* b\n`,
		"<<E\n<<F\nF\nE":                              `<<F\nF\n`,
		"<<_\n_":                                      ``,
		"<<a-b_9-\na-b_9\na-b_9-":                     `a-b_9\n`,
		"<<EE\nE\nEE":                                 `E\n`,
	} {
		check(t, text, quote(want, 0))
		check(t, " a="+text+"\nb", name("a", 1), sign("=", 2), quote(want, 3), line(len(text)+3), name("b", len(text)+4))
		check(t, text+"\n"+text, quote(want, 0), line(len(text)), quote(want, len(text)+1))
	}
	check(t, "<<E\na\nE\nE", quote(`a\n`, 0), line(7), name("E", 8))
	check(t, "1<<E\nE", digits("1", 0), quote("", 1))
	check(t, "x<<E\nE", name("x", 0), quote("", 1))
	check(t, "\"\"<<E\nE\n\"\"", quote("", 0), quote("", 2), line(7), quote("", 8))
	check(t, "=<<E\nE", sign("=", 0), quote("", 1))
	long := strings.Repeat("n", 4000)
	check(t, "<<"+long+"\n"+long[1:]+"\n"+long+"x\n "+long, quote(long[1:]+`\n`+long+`x\n`, 0))
	check(t, "<<E\n"+strings.Repeat("$", api.MaxText-6)+"\nE", quote(strings.Repeat(`\$`, api.MaxText-6)+`\n`, 0))
	check(t, "<<E\n"+strings.Repeat("\n", api.MaxText-5)+"E", quote(strings.Repeat(`\n`, api.MaxText-5), 0))
}

func TestNoHeredoc(t *testing.T) {
	for _, text := range []string{
		"<<", "<<<", "<<=", "<< E\nE", "<<E", "<<E ", "<<E \nE", "<<E\r\nE", "<<E#\nE", "<<E x\nE", "<<\nE", "<<\n", "<<1\n1", "<<-E\nE", "<<-\n-", "<<\"E\"\nE", "<<\u00e9\n\u00e9", "<<E\u00e9\nE\u00e9", "<<E.\nE.", "<<<E\nE", "<<E<<F\nE",
		"<<E\n", "<<E\n\n", "<<E\nx", "<<E\nx\n", "<<E\ne\n", "<<E\nE ", "<<E\nE \n", "<<E\nE\r\n", "<<E\nEE", "<<E\nxE\n", "<<E\n\vE", "<<EE\nE", "<<E\n<<E", "<<E\nE#",
	} {
		checkWrong(t, text, api.ErrLex, 0)
		checkWrong(t, "a\n"+text, api.ErrLex, 2)
	}
	check(t, "< <", sign("<", 0), sign("<", 2))
	check(t, "</**/<", sign("<", 0), sign("<", 5))
	check(t, "<=<", sign("<=", 0), sign("<", 2))
}
