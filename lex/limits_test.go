package lex

import (
	"strings"
	"testing"

	"purlin/api"
)

func TestTextLength(t *testing.T) {
	check(t, strings.Repeat(" ", api.MaxText))
	check(t, "#"+strings.Repeat("\u00e9", (api.MaxText-1)/2))
	check(t, `"`+strings.Repeat("a", api.MaxText-2)+`"`, quote(strings.Repeat("a", api.MaxText-2), 0))
	check(t, strings.Repeat(" ", api.MaxText-1)+"a", name("a", api.MaxText-1))
	checkWrong(t, strings.Repeat(" ", api.MaxText+1), api.ErrLong, 0)
	checkWrong(t, strings.Repeat(" ", api.MaxText)+"a", api.ErrLong, 0)
	checkWrong(t, strings.Repeat("~", api.MaxText+1), api.ErrLong, 0)
	checkWrong(t, strings.Repeat("\xff", api.MaxText+1), api.ErrLong, 0)
	checkWrong(t, strings.Repeat(" ", api.MaxText-1)+"\u00e9", api.ErrLong, 0)
	checkWrong(t, strings.Repeat(" ", api.MaxText-2)+"\u00e9", api.ErrLex, api.MaxText-2)
	checkWrong(t, strings.Repeat(" ", api.MaxText-1)+"\xff", api.ErrText, api.MaxText-1)
}

// noUTF8Texts answers texts, and the byte of each at which no UTF-8 begins.
func noUTF8Texts() map[string]int {
	return map[string]int{
		"\x80": 0, "\xbf": 0, "\xff": 0, "\xfe": 0, "\xc0\x80": 0, "\xc1\xbf": 0,
		"\xc3": 0, "\xc3a": 0, "\xc3\xc3\xa9": 0, "\xc3\xa9\xa9": 2,
		"\xe0\x80\x80": 0, "\xe0\x9f\xbf": 0, "\xe2\x82": 0, "\xe2\x82a": 0, "\xe2a\x82": 0,
		"\xed\xa0\x80": 0, "\xed\xbf\xbf": 0, "\xed\xa0\xbd\xed\xb8\x80": 0,
		"\xf0\x80\x80\x80": 0, "\xf0\x8f\xbf\xbf": 0, "\xf0\x9f\x98": 0, "\xf4\x90\x80\x80": 0, "\xf5\x80\x80\x80": 0, "\xf8\x88\x80\x80\x80": 0,
		"\ufffd\xef\xbf": 3, "\ufffd\xef\xbf\xbd\xbd": 6, "\U0010ffff\xf0": 4,
	}
}

func TestNoUTF8(t *testing.T) {
	for bad, at := range noUTF8Texts() {
		for _, head := range []string{"", " ", "a", "1", "=", `"`, `"${`, "#", "//", "/*", "<<E\n", "<<", "\n", "\u00e9", "\ufffd", "a & b", "1x", "\"\n\"", "01 ~ ", strings.Repeat("a", 33), strings.Repeat("1", 101), strings.Repeat("+", 4097), `"$` + strings.Repeat("{", 25)} {
			checkWrong(t, head+bad, api.ErrText, len(head)+at)
			checkWrong(t, head+bad+"a\n\"\xff", api.ErrText, len(head)+at)
		}
	}
	for _, good := range []string{"\x7f", "\u0080", "\u07ff", "\u0800", "\ud7ff", "\ue000", "\ufffd", "\uffff", "\U00010000", "\U0010ffff"} {
		check(t, `"`+good+`"#`+good, quote(good, 0))
		check(t, "/*"+good+"*/<<E\n"+good+"\nE", quote(good+`\n`, len(good)+4))
	}
}

func TestTokenCount(t *testing.T) {
	full := strings.Repeat("+", api.MaxTokens)
	var want []api.Token
	for at := range api.MaxTokens {
		want = append(want, sign("+", at))
	}
	for _, behind := range []string{"", " ", "#", "//\t", "/*\n*/", "\r /**/ "} {
		check(t, full+behind, want...)
	}
	for _, token := range []string{"+", "a", "0", "\n", `""`, "<<E\nE", "<=", strings.Repeat("a", 32), strings.Repeat("1", 100)} {
		checkWrong(t, full+token, api.ErrLong, api.MaxTokens)
		checkWrong(t, full+" /**/"+token, api.ErrLong, api.MaxTokens+5)
		checkWrong(t, full+token+"\n~", api.ErrLong, api.MaxTokens)
		checkWrong(t, full[1:]+"\n"+token, api.ErrLong, api.MaxTokens)
	}
	for _, token := range []string{"~", "&", "1x", "01", strings.Repeat("1", 101) + "x", "\"", "\"\\q\"", "<<", "<<E\n", "/*"} {
		checkWrong(t, full+token, api.ErrLex, api.MaxTokens)
	}
	checkWrong(t, full+strings.Repeat("a", 33), api.ErrLong, api.MaxTokens)
	checkWrong(t, full+`"$`+strings.Repeat("{", 25), api.ErrDeep, api.MaxTokens)
	checkWrong(t, full[1:]+"~+", api.ErrLex, api.MaxTokens-1)
	checkWrong(t, strings.Repeat("\n", api.MaxText), api.ErrLong, api.MaxTokens)
	checkWrong(t, strings.Repeat("a ", api.MaxTokens+1), api.ErrLong, 2*api.MaxTokens)
}
