package show

import (
	"strings"
	"testing"

	"purlin/api"
)

// TestAtoms has what is made of no other expression.
func TestAtoms(t *testing.T) {
	nines, name := strings.Repeat("9", api.MaxDigits), strings.Repeat("n", api.MaxName)
	for _, atom := range []string{"null", "true", "false", "0", "12", nines, "a", "_", "a-b_9--", name, "Null", "in", "[]", "{}", "f()", "null()", name + "()"} {
		checkExpr(t, atom, atom)
	}
	for text, want := range map[string]string{
		"(a)":          "a",
		"((\n1\n))":    "1",
		"[\n\n]":       "[]",
		"{\n}":         "{}",
		"f (\n)":       "f()",
		"a # b":        "a",
		"a // b":       "a",
		"/* c */ null": "null",
	} {
		checkExpr(t, text, want)
	}
}

// TestLists has lists, calls and objects.
func TestLists(t *testing.T) {
	for text, want := range map[string]string{
		"[1]":                      "[1]",
		"[ 1,2 ,3, ]":              "[1, 2, 3]",
		"[[],[[a]]]":               "[[], [[a]]]",
		"[\n1,\n2\n]":              "[1, 2]",
		"f(1)":                     "f(1)",
		"f(1,null,)":               "f(1, null)",
		"f( g ( ) , [a],-1)":       "f(g(), [a], (-1))",
		"{k=1}":                    `{"k" = 1}`,
		`{ "k" = 1 }`:              `{"k" = 1}`,
		"{b=1\na=2,\n\nc=3,}":      `{"b" = 1, "a" = 2, "c" = 3}`,
		`{""=1,"a b"=2}`:           `{"" = 1, "a b" = 2}`,
		`{"\"\\\$\n\t\r$é"=1}`:     `{"\"\\\$\n\t\r\$é" = 1}`,
		"{\"\t\r\\${\"={}}":        `{"\t\r\${" = {}}`,
		"{null=null,for={in=[]}}":  `{"null" = null, "for" = {"in" = []}}`,
		"[{a=1},{a=2}, f({a=3}) ]": `[{"a" = 1}, {"a" = 2}, f({"a" = 3})]`,
	} {
		checkExpr(t, text, want)
	}
}

// TestPosts has what stands behind an expression, one upon the other.
func TestPosts(t *testing.T) {
	for text, want := range map[string]string{
		"a.b":          "(a).b",
		"a . b":        "(a).b",
		"a.b.c":        "((a).b).c",
		"1.a":          "(1).a",
		"a.null.for":   "((a).null).for",
		"a[0]":         "(a)[0]",
		"a[ b[c] ]":    "(a)[(b)[c]]",
		"a[0][1]":      "((a)[0])[1]",
		`"t"[0]`:       `("t")[0]`,
		"[1][0]":       "([1])[0]",
		"{k=1}.k":      `({"k" = 1}).k`,
		"a[*].b":       "(a)[*].b",
		"a [ * ] . b":  "(a)[*].b",
		"a[*].b[*].c":  "((a)[*].b)[*].c",
		"a[*].b.c[0]":  "(((a)[*].b).c)[0]",
		"f(1)[x+1].y":  "((f(1))[(x + 1)]).y",
		"(a+b).c":      "((a + b)).c",
		"(a?b:c)[*].d": "((a ? b : c))[*].d",
	} {
		checkExpr(t, text, want)
	}
}

// TestNested has - and !, ? and :, and for, within one another.
func TestNested(t *testing.T) {
	for text, want := range map[string]string{
		"-1":                 "(-1)",
		"- 1":                "(-1)",
		"--a":                "(-(-a))",
		"-(-a)":              "(-(-a))",
		"-x-y":               "(-x-y)",
		"-a.b":               "(-(a).b)",
		"(-a).b":             "((-a)).b",
		"!a":                 "(!a)",
		"!-!a":               "(!(-(!a)))",
		"!(a||b)":            "(!(a || b))",
		"a - -b":             "(a - (-b))",
		"a?b:c":              "(a ? b : c)",
		"a?b:c?d:e":          "(a ? b : (c ? d : e))",
		"a?b?c:d:e":          "(a ? (b ? c : d) : e)",
		"(a?b:c)?d:e":        "((a ? b : c) ? d : e)",
		"[for v in l:v]":     "[for v in l : v]",
		"[for v in [1]:v.a]": "[for v in [1] : (v).a]",
		"[for in in in:in]":  "[for in in in : in]",
		"[for null in a:1]":  "[for null in a : 1]",
		"[for a in[for b in c:d]:[for e in f:-g]]": "[for a in [for b in c : d] : [for e in f : (-g)]]",
		"[for v in l:v][0]":                        "([for v in l : v])[0]",
		"[for v in a?b:c:d?e:f]":                   "[for v in (a ? b : c) : (d ? e : f)]",
		"[[for v in l:v],1]":                       "[[for v in l : v], 1]",
	} {
		checkExpr(t, text, want)
	}
}

// TestSigns has each sign that joins, beside each other one.
func TestSigns(t *testing.T) {
	tight := map[string]int{"||": 1, "&&": 2, "==": 3, "!=": 3, "<": 4, ">": 4, "<=": 4, ">=": 4, "+": 5, "-": 5, "*": 6, "/": 6, "%": 6}
	for sign, first := range tight {
		checkExpr(t, "1"+sign+"2", "(1 "+sign+" 2)")
		for next, second := range tight {
			left, right := "((a "+sign+" b) "+next+" c)", "(a "+sign+" (b "+next+" c))"
			checkExpr(t, "(a "+sign+" b) "+next+" c", left)
			checkExpr(t, "a "+sign+" (b "+next+" c)", right)
			if first < second {
				left = right
			}
			checkExpr(t, "a "+sign+" b "+next+" c", left)
		}
	}
}
