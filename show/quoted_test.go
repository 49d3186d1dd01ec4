package show

import (
	"strings"
	"testing"
)

// TestTexts has what may stand between quotes, and in heredocs.
func TestTexts(t *testing.T) {
	for _, text := range []string{`""`, `"a b"`, `"\""`, `"\\"`, `"\\\\n"`, `"\n"`, `"\\n"`, `"\t\r\n"`, `"\$"`, `"{}"`, `"\${a}"`, `"\$\${"`, `"# // /* <<E 'x' ]})"`, `"null"`} {
		checkExpr(t, text, text)
	}
	for text, want := range map[string]string{
		"\"a\tb\rc\"":     `"a\tb\rc"`,
		`"$"`:             `"\$"`,
		`"$$"`:            `"\$\$"`,
		`"$ {"`:           `"\$ {"`,
		`"$\${"`:          `"\$\${"`,
		"<<E\nE":          `""`,
		"<<E\n\n\nE":      `"\n\n"`,
		"<<E\na\"\\n\n E": `"a\"\\n\n"`,
		"<<E\n\t\r$\n\tE": `"\t\r\$\n"`,
		"<<E\n${a}\nE":    `"\${a}\n"`,
		"(<<E\n} {\nE\n)": `"} {\n"`,
	} {
		checkExpr(t, text, want)
	}
}

// TestRunes has each byte of the first 128 in a text, and runes of more bytes, also such whose lowest byte is one of a rune that has a backslash ahead.
func TestRunes(t *testing.T) {
	want := map[rune]string{'\\': `\\`, '"': `\"`, '$': `\$`, '\n': `\n`, '\t': `\t`, '\r': `\r`}
	runes := []rune("\u0080\u00e9\u07ff\u0800\u2028\ud7ff\ue000\ufeff\ufffd\uffff\U00010000\U0001f600\U0010ffff")
	for low := range rune(128) {
		runes = append(runes, low, 0x100+low, 0x2100+low, 0x10000+low)
	}
	for _, r := range runes {
		source, shown := string(r), string(r)
		if escaped, has := want[r]; has {
			source, shown = escaped, escaped
		}
		for _, around := range []string{"", "a", "\u00e9", `\\`} {
			checkExpr(t, `"`+around+source+around+source+`"`, `"`+around+shown+around+shown+`"`)
		}
		checkExpr(t, `"`+source+"${"+`"`+source+`"}`+source+`"`, `"`+shown+"${"+`"`+shown+`"}`+shown+`"`)
		checkExpr(t, `{"`+source+`"=1}`, `{"`+shown+`" = 1}`)
		checkFile(t, `a "`+source+`" {}`, `a "`+shown+"\" {\n}\n")
	}
}

// TestTemplates has insertions, with what stands between them, and in one another.
func TestTemplates(t *testing.T) {
	for _, text := range []string{
		`"${a}"`, `"${a}${b}"`, `"p${a}"`, `"${a}q"`, `" ${a} ${b} "`, `"{${a}}"`, `"${""}"`, `"${"}"}"`, `"${"\""}"`, `"${"${a}"}"`, `"a${"b${"c${d}"}e"}f"`,
		`"${{}}"`, `"é${a}€"`, `"${1}${null}"`, `"\n\t\r\\\"\$${a}\$"`, `["${a}", "b"]`, `("${a}").b`, `f("${a}", {"k" = "${a}"})`,
	} {
		checkExpr(t, text, text)
	}
	for text, want := range map[string]string{
		`"${ a }"`:                     `"${a}"`,
		`"${a /* b */}"`:               `"${a}"`,
		`"p${q+1}\${\n"`:               `"p${(q + 1)}\${\n"`,
		`"$${a}$"`:                     `"\$${a}\$"`,
		"\"\t\\\"${a}\r\\\\\"":         `"\t\"${a}\r\\"`,
		`"${"\n$"}"`:                   `"${"\n\$"}"`,
		`"${{k="}",l={}}}"`:            `"${{"k" = "}", "l" = {}}}"`,
		`"${a?b:c}"`:                   `"${(a ? b : c)}"`,
		`"${[for v in l:"${v}"]}"`:     `"${[for v in l : "${v}"]}"`,
		`"${-x}${f(1,2)}${l[*].a[0]}"`: `"${(-x)}${f(1, 2)}${((l)[*].a)[0]}"`,
		`"t" == "${"e"}"`:              `("t" == "${"e"}")`,
	} {
		checkExpr(t, text, want)
	}
}

// TestLongText has texts of as many bytes as may stand in a file.
func TestLongText(t *testing.T) {
	for _, part := range []string{"a", "\u00e9", `\n`, `\$`, "${a}", "b${a}"} {
		text := `"` + strings.Repeat(part, 4000/len(part)) + `"`
		checkExpr(t, text, text)
	}
}
