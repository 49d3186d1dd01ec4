package syntax

import (
	"strings"
	"testing"

	"purlin/api"
)

// nest answers what opens, so many times, then the text, then what shuts, as often.
func nest(open, text, shut string, n int) string {
	return strings.Repeat(open, n) + text + strings.Repeat(shut, n)
}

// checkDeep wants what is opened, and shut behind the text, to be one deeper each time. Between head and tail one is so deep already. The error is wanted at the mark within what opens, where there is one of it too many.
func checkDeep(t *testing.T, head, tail string, depth int, marked, text, shut string) {
	t.Helper()
	before, behind, _ := strings.Cut(marked, "\x01")
	open := before + behind
	most := api.MaxNest - depth
	for n := 1; n <= most; n++ {
		if _, wrong := Parse(head + nest(open, text, shut, n) + tail); wrong != nil {
			t.Errorf("P5.1: %d times %q behind %q: %+v", n, open, head, wrong)
		}
	}
	for _, n := range []int{most + 1, most + 2, 2 * most} {
		checkWrong(t, head+nest(open, text, shut, n)+tail, api.ErrDeep, len(head)+most*len(open)+len(before))
	}
}

// deepHeads answers where an expression may stand, what is to stand behind it, and how deep that is.
func deepHeads() []struct {
	head, tail string
	depth      int
} {
	return []struct {
		head, tail string
		depth      int
	}{
		{"a { x = ", " }", 1},
		{"a {\n b {\n x = (\n", ") + (1)\n }\n}", 3},
		{"a {\n x = {k = [", "]}}", 3},
		{"a {\n x = {\nj = (((1)))\n k = ", "\n}}", 2},
		{"a {\n x = f(g[(", ")])}", 4},
		{"a {\n x = b ? c ? ", ": d : e}", 3},
		{"a {\n x = b ? c : d ? e : ", "}", 3},
		{"a {\n x = [for v in ", ": v]}", 2},
		{"a {\n x = -!(", ")}", 4},
		{"a {\n x = ((1)) + [[2]][(3)] + f(4) + -5 == {j = (6)} && ", "}", 1},
		{"a {\n x = \"${(b)}${ ", "}c\"}", 2},
		{"a {\n x = \"${\"b${[", "]}\"}\"}", 4},
	}
}

func TestDeep(t *testing.T) {
	for _, open := range []struct{ marked, text, shut string }{
		{"\x01(", "1", ")"},
		{"\x01[", "1", "]"},
		{"\x01[", "", "]"},
		{"\x01[for v in ", "l", ": v]"},
		{"\x01[for v in l : ", "v", "]"},
		{"\x01{k = ", "1", "}"},
		{"f\x01(", "", ")"},
		{"f\x01(a, ", "1", ", b)"},
		{"a\x01[", "0", "]"},
		{"a.b \x01[", "0", "].c"},
	} {
		for _, h := range deepHeads() {
			if open.shut != "}" || !strings.Contains(h.head, "${") { // Scan counts braces within insertions, too
				checkDeep(t, h.head, h.tail, h.depth, open.marked, open.text, open.shut)
			}
		}
	}
	for _, open := range []struct{ marked, text, shut string }{
		{"\x01-", "1", ""},
		{"\x01!", "a.b", ""},
		{"a \x01? ", "b", " : c"},
		{"a \x01? b : ", "c", ""},
		{"a + b || c \x01? ", "b", " : c * d"},
	} {
		for _, h := range deepHeads() {
			if !strings.HasSuffix(h.head, "&& ") || !strings.Contains(open.marked, "?") { // what is ahead of ? is joined first
				checkDeep(t, h.head, h.tail, h.depth, open.marked, open.text, open.shut)
			}
		}
	}
	checkDeep(t, "", "", 0, "a \x01{ ", "", "}")
	checkDeep(t, "", "", 0, "a \"b\" \x01{\n", "x = 1", "\n}\n")
	checkDeep(t, "a {\n x = 1\n}\n", "", 0, "b\x01{", "x = y", "}")
}

// TestDeepAt has, at the greatest depth, all that would be one deeper.
func TestDeepAt(t *testing.T) {
	head, tail := "a { x = "+strings.Repeat("(", 23), strings.Repeat(")", 23)+" }"
	for _, marked := range []string{"\x01(1)", "\x01[]", "\x01[1]", "\x01[for v in l : v]", "\x01{}", "\x01{k = 1}", "f\x01()", "f\x01(1)", "a\x01[0]", "a.b\x01[c]", "a\x01[*].b", "\x01-1", "\x01!a", "1 - \x01-1", "a + \x01-b", "a \x01? b : c", "a == b \x01? c : d", "\"\x01${a}\"", "\"a\x01${b}${c}\"", "\"\\$\x01${a}\"", "\"\u00e9\x01${a}\""} {
		before, behind, _ := strings.Cut(marked, "\x01")
		checkWrong(t, head+before+behind+tail, api.ErrDeep, len(head)+len(before))
		if _, wrong := Parse(head[:len(head)-1] + before + behind + tail[1:]); wrong != nil {
			t.Errorf("P5.1: one less deep: %q: %+v", marked, wrong)
		}
	}
	for _, text := range []string{"1", "a", "null", "\"a\"", "\"\\${a}\"", "\"$a{}\"", "a.b.c.d", "1 + 2 * 3 - 4", "a || b && c == d < e"} {
		if _, wrong := Parse(head + text + tail); wrong != nil {
			t.Errorf("P5.1: %q: %+v", text, wrong)
		}
	}
}

// TestDeepInsertions has insertions in one another. Scan refuses more than 24 of them: by a block's braces one is one deeper than it knows.
func TestDeepInsertions(t *testing.T) {
	for _, open := range []string{"\"${", "\"b${", "\"${c}${"} {
		at := strings.LastIndex(open, "$")
		if _, wrong := Parse("a { x = " + nest(open, "a", "}\"", 23) + "}"); wrong != nil {
			t.Errorf("P5.1: 23 times %q: %+v", open, wrong)
		}
		checkWrong(t, "a { x = "+nest(open, "a", "}\"", 25)+"}", api.ErrDeep, 8)
		if strings.Count(open, "$") == 1 {
			checkWrong(t, "a { x = "+nest(open, "a", "}\"", 24)+"}", api.ErrDeep, 8+23*len(open)+at)
			checkWrong(t, "a { x = -"+nest(open, "a", "}\"", 24)+"}", api.ErrDeep, 9+22*len(open)+at)
		}
	}
	wide := strings.Repeat("\"${a}\", ", 100)
	if _, wrong := Parse("a { x = " + nest("[", wide, "]", 22) + " }"); wrong != nil {
		t.Errorf("P5.1: insertions beside one another: %+v", wrong)
	}
}

// TestWide has much beside one another: that isn't deep.
func TestWide(t *testing.T) {
	for text, count := range map[string]int{
		strings.Repeat("a.", 1000) + "a":                1001,
		strings.Repeat("a.", 1000) + "b + c":            1003,
		strings.Repeat("1 + ", 1000) + "1":              2001,
		"[" + strings.Repeat("[],", 1000) + "]":         1001,
		"a" + strings.Repeat("[0]", 1000):               2001,
		strings.Repeat("-1 - ", 1000) + "(1)":           3001,
		strings.Repeat("(a ? b : c) && ", 300) + "d":    1501,
		"\"" + strings.Repeat("${a}b", 1000) + "\"":     2001,
		"f(" + strings.Repeat("{a = f()}, ", 300) + ")": 601,
	} {
		f, wrong := Parse("a { x = " + text + " }")
		if wrong != nil || len(f.Exprs) != count {
			t.Errorf("P5.1: %.40q ..: %d expressions, %+v, want %d", text, len(f.Exprs), wrong, count)
		}
	}
	f, wrong := Parse(strings.Repeat("a {\n b {}\n c {}\n}\n", 200))
	if wrong != nil || len(f.Blocks) != 600 || len(f.Top) != 200 || f.Top[199] != 599 {
		t.Errorf("P5.1: many blocks: %d, %d, %+v", len(f.Blocks), len(f.Top), wrong)
	}
}

// TestFirst has several things wrong: what is wrong at the first token is told.
func TestFirst(t *testing.T) {
	deep := "a {x = " + strings.Repeat("(", 23)
	for marked, code := range map[string]api.Errno{
		"a {x = {k = 1, \x01k = 2}}}":               api.ErrTwice,
		"a {x = {k = 1, \x01k 2}}":                  api.ErrTwice,
		"a {x = {k = 1, \x01k = 2, k = 3}}":         api.ErrTwice,
		"a {x = {k = \x01}, k = 2}}":                api.ErrSyntax,
		"a {x = {k = 1, l \x01k = 1, k = 2}":        api.ErrSyntax,
		"a {x = {k = 1, \x01k = \"${~}\"}}":         api.ErrTwice,
		"a {x = {k = \"${\x01~}\", k = 2}}":         api.ErrLex,
		"a {x = \"${\x01}\" y}":                     api.ErrSyntax,
		"a {x = \"${\x01~}\" y}":                    api.ErrLex,
		"a {x = 1 \x01\"${~}\"}":                    api.ErrSyntax,
		"a {x = \"${\x01~}${}\"}":                   api.ErrLex,
		"a {x = \"${\x01}${~}\"}":                   api.ErrSyntax,
		"a {x = [\"${\x01}\", {k = 1, k = 2}]}":     api.ErrSyntax,
		"a {x = [{k = 1, \x01k = 2}, \"${}\"]}":     api.ErrTwice,
		deep + "\x01(":                              api.ErrDeep,
		deep + "\x01(((((":                          api.ErrDeep,
		deep + "\x01- - =":                          api.ErrDeep,
		deep + "\x01-}":                             api.ErrDeep,
		deep + "\x01)":                              api.ErrSyntax,
		deep + "a \x01? : b":                        api.ErrDeep,
		deep + "\"\x01${~}\"":                       api.ErrDeep,
		deep + "1 \x01(":                            api.ErrSyntax,
		deep + "1 \x01!a":                           api.ErrSyntax,
		deep + "\x01? a : b":                        api.ErrSyntax,
		"a {x = [{k = 1, \x01k = 2}, " + deep:       api.ErrTwice,
		"a {x = [\"${a \x01b}\", " + deep:           api.ErrSyntax,
		strings.Repeat("a {", 24) + "a \x01{":       api.ErrDeep,
		strings.Repeat("a {", 24) + "x = 1 \x01a {": api.ErrSyntax,
		strings.Repeat("a {", 24) + "a \x01[":       api.ErrSyntax,
		"a {x = \x01= " + strings.Repeat("(", 30):   api.ErrSyntax,
		"a {x = {j = 1, \x01j = " + deep[7:] + "((": api.ErrTwice,
	} {
		checkMarked(t, marked, code)
	}
}
