package lex

import (
	"fmt"
	"slices"
	"strings"
	"testing"

	"purlin/api"
)

func name(text string, at int) api.Token { return api.Token{Kind: api.TName, Text: text, At: at} }

func digits(text string, at int) api.Token { return api.Token{Kind: api.TNumber, Text: text, At: at} }

func quote(text string, at int) api.Token { return api.Token{Kind: api.TString, Text: text, At: at} }

func sign(text string, at int) api.Token { return api.Token{Kind: api.TSign, Text: text, At: at} }

func line(at int) api.Token { return api.Token{Kind: api.TLine, Text: "\n", At: at} }

// brief answers the first of the tokens, as they are told.
func brief(tokens []api.Token) string { return fmt.Sprintf("%.400s", fmt.Sprintf("%+v", tokens)) }

// check wants a text's tokens, and the TEnd behind them.
func check(t *testing.T, text string, want ...api.Token) {
	t.Helper()
	want = append(slices.Clip(want), api.Token{Kind: api.TEnd, At: len(text)})
	if got, wrong := Scan(text); wrong != nil || !slices.Equal(got, want) {
		t.Errorf("P4.1: Scan(%.80q): %s, %+v, want %s", text, brief(got), wrong, brief(want))
	}
}

// checkWrong wants a text's error, without a file, and no token beside it (R3).
func checkWrong(t *testing.T, text string, code api.Errno, at int) {
	t.Helper()
	got, wrong := Scan(text)
	if wrong == nil || *wrong != (api.Diag{Code: code, At: at}) {
		t.Errorf("P4.1: Scan(%.80q): %s, %+v, want %d at %d", text, brief(got), wrong, code, at)
	}
	if wrong != nil && got != nil {
		t.Errorf("P7: Scan(%.80q): %s beside an error", text, brief(got))
	}
}

func TestExamples(t *testing.T) {
	check(t, `a = "x${b}" # r`, name("a", 0), sign("=", 2), quote("x${b}", 4))
	check(t, "x--y", name("x--y", 0))
	check(t, "<<E\na\"b\nE", quote(`a\"b\n`, 0))
	checkWrong(t, "1x", api.ErrLex, 0)
	checkWrong(t, `"a`, api.ErrLex, 0)
	checkWrong(t, `"${"`, api.ErrLex, 0)
	checkWrong(t, "a & b", api.ErrLex, 2)
}

func TestBetween(t *testing.T) {
	check(t, "")
	for _, text := range []string{" ", "\t", "\r", " \r\t ", "#", "//", "# a", "// \"", "#\t\xc3\xa9 ~", "/**/", "/***/", "/*/*/", "/* \n\n */", "/* // */", "/* # */", "// /*", "# /*", "/* \" ${ << */", "/**//**/", " /*a*/\t/*b*/ //", "/* \u20ac */#"} {
		check(t, text)
		check(t, text+"\n"+text, line(len(text)))
		check(t, "a"+text, name("a", 0))
		check(t, text+"\na", line(len(text)), name("a", len(text)+1))
	}
	check(t, "a#b\n#c\nd", name("a", 0), line(3), line(6), name("d", 7))
	check(t, "a//b\r\nc", name("a", 0), line(5), name("c", 6))
	check(t, "a/*b\nc*/d", name("a", 0), name("d", 8))
	check(t, "a/**/b", name("a", 0), name("b", 5))
	check(t, "1/**/x", digits("1", 0), name("x", 5))
	check(t, "=/**/=", sign("=", 0), sign("=", 5))
	check(t, "a*/b", name("a", 0), sign("*", 1), sign("/", 2), name("b", 3))
	check(t, "/ /", sign("/", 0), sign("/", 2))
	check(t, "/ *", sign("/", 0), sign("*", 2))
	check(t, "/**//", sign("/", 4))
	check(t, "/* */*/", sign("*", 5), sign("/", 6))
	check(t, "a\n\n \n", name("a", 0), line(1), line(2), line(4))
	for text, at := range map[string]int{"/*": 0, "/*/": 0, "/* *": 0, "/* * /": 0, " /* a\n": 1, "a /* b": 2, "a/*": 1, "/**/ /*": 5, "1\n/* //": 2, "//\n/*": 3} {
		checkWrong(t, text, api.ErrLex, at)
	}
}

func TestNoToken(t *testing.T) {
	for _, bad := range []string{"~", "@", "$", "^", "'", "`", ";", "\\", "&", "|", "\x00", "\v", "\f", "\x7f", "\u00a0", "\u00e9", "\u2028", "\ufeff", "\ufffd", "\U0001f600", "\u0661"} {
		checkWrong(t, bad, api.ErrLex, 0)
		checkWrong(t, "a "+bad, api.ErrLex, 2)
		checkWrong(t, "a"+bad+"b", api.ErrLex, 1)
		checkWrong(t, "1"+bad, api.ErrLex, 1)
		checkWrong(t, "\"\"\n"+bad+" "+bad, api.ErrLex, 3)
		check(t, "\""+strings.ReplaceAll(bad, `\`, `\\`)+"\"#"+bad, quote(strings.ReplaceAll(bad, `\`, `\\`), 0))
	}
}

func TestNames(t *testing.T) {
	for _, text := range []string{"a", "z", "A", "Z", "_", "__", "_9", "a1", "x-", "x--", "x-1-y", "_-", "aZ09_-z", "null", "for", "E", strings.Repeat("a", 32), "_" + strings.Repeat("-", 31)} {
		check(t, text, name(text, 0))
		check(t, " "+text+"=", name(text, 1), sign("=", len(text)+1))
		check(t, text+"\"\"", name(text, 0), quote("", len(text)))
	}
	check(t, "-a", sign("-", 0), name("a", 1))
	check(t, "a.b", name("a", 0), sign(".", 1), name("b", 2))
	check(t, "a -b", name("a", 0), sign("-", 2), name("b", 3))
	check(t, "a_b c", name("a_b", 0), name("c", 4))
	checkWrong(t, "a\u00e9", api.ErrLex, 1)
	checkWrong(t, strings.Repeat("a", 33), api.ErrLong, 0)
	checkWrong(t, " "+strings.Repeat("a-", 17), api.ErrLong, 1)
	checkWrong(t, "x = "+strings.Repeat("_", 10000)+"~", api.ErrLong, 4)
	check(t, strings.Repeat("a", 32)+" "+strings.Repeat("b", 32), name(strings.Repeat("a", 32), 0), name(strings.Repeat("b", 32), 33))
}

func TestNumbers(t *testing.T) {
	nines, one := strings.Repeat("9", 100), "1"+strings.Repeat("0", 99)
	for _, text := range []string{"0", "1", "9", "10", "1234567890", "9223372036854775808", nines, one} {
		check(t, text, digits(text, 0))
		check(t, " "+text+"-x", digits(text, 1), sign("-", len(text)+1), name("x", len(text)+2))
		check(t, "-"+text, sign("-", 0), digits(text, 1))
		check(t, text+"."+text, digits(text, 0), sign(".", len(text)), digits(text, len(text)+1))
		check(t, text+" x", digits(text, 0), name("x", len(text)+1))
		checkWrong(t, "\n"+text+"x", api.ErrLex, 1)
		checkWrong(t, text+"_", api.ErrLex, 0)
		checkWrong(t, text+"\u00e9", api.ErrLex, len(text))
	}
	for _, text := range []string{"00", "01", "007", "0x1", "0_", "1x", "1e5", "1_000", "1Z", "10a", "0" + nines, "0" + nines + "x", nines + "9x", nines + "9_", "00x", nines + "z"} {
		checkWrong(t, text, api.ErrLex, 0)
		checkWrong(t, "a="+text+"=", api.ErrLex, 2)
	}
	for _, behind := range []string{"", " ", "-", "\n", " x", "/**/x", "\u00e9", "~", "."} {
		checkWrong(t, nines+"9"+behind, api.ErrLong, 0)
		checkWrong(t, "[ "+one+"0"+behind, api.ErrLong, 2)
	}
	checkWrong(t, strings.Repeat("1", api.MaxText), api.ErrLong, 0)
}

func TestSigns(t *testing.T) {
	one := []string{"{", "}", "[", "]", "(", ")", "=", "+", "-", "*", "/", "%", "<", ">", "!", "?", ":", ",", "."}
	two := []string{"==", "!=", "<=", ">=", "&&", "||"}
	for _, text := range slices.Concat(one, two) {
		check(t, text, sign(text, 0))
		check(t, "a- "+text+"b", name("a-", 0), sign(text, 3), name("b", 3+len(text)))
		for _, next := range slices.Concat(one, two) {
			check(t, text+" "+next, sign(text, 0), sign(next, len(text)+1))
		}
	}
	for _, first := range one {
		for _, second := range one {
			pair := first + second
			switch {
			case slices.Contains(two, pair):
				check(t, pair, sign(pair, 0))
			case pair == "//":
				check(t, pair)
			case pair == "/*", pair == "<<":
				checkWrong(t, pair, api.ErrLex, 0)
			default:
				check(t, pair, sign(first, 0), sign(second, 1))
			}
		}
	}
	check(t, "===", sign("==", 0), sign("=", 2))
	check(t, "====", sign("==", 0), sign("==", 2))
	check(t, "!==", sign("!=", 0), sign("=", 2))
	check(t, "!!=", sign("!", 0), sign("!=", 1))
	check(t, "=<=", sign("=", 0), sign("<=", 1))
	check(t, "<=<", sign("<=", 0), sign("<", 2))
	check(t, ">>=", sign(">", 0), sign(">=", 1))
	check(t, "&&&&", sign("&&", 0), sign("&&", 2))
	check(t, "||&&", sign("||", 0), sign("&&", 2))
	for text, at := range map[string]int{"&&&": 2, "|||": 2, "&|": 0, "& &": 0, "|=": 0, "&": 0, "a|b": 1, "&/**/&": 0} {
		checkWrong(t, text, api.ErrLex, at)
	}
}
