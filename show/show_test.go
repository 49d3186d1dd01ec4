package show

import (
	"testing"

	"purlin/api"
	"purlin/syntax"
)

// parsed answers the file of a text, which must have one.
func parsed(t *testing.T, text string) api.File {
	t.Helper()
	f, wrong := syntax.Parse(text)
	if wrong != nil {
		t.Fatalf("Parse(%.300q): %+v", text, wrong)
	}
	return f
}

// checkFile wants a text's file to be shown so, there and back.
func checkFile(t *testing.T, text, want string) {
	t.Helper()
	f := parsed(t, text)
	if got := File(f); got != want {
		t.Errorf("P6.1: File of %.300q: %.300q, want %.300q", text, got, want)
		return
	}
	if code := checkBack(t, f); code != api.OK {
		t.Errorf("P6.2: %.300q: %.300q is refused with %d", text, want, code)
	}
}

// checkExpr wants an expression to be shown so, by itself and in its file, there and back.
func checkExpr(t *testing.T, text, want string) {
	t.Helper()
	text, whole := "a {\nx = "+text+"\n}", "a {\n  x = "+want+"\n}\n"
	f := parsed(t, text)
	if got := Expr(f, f.Blocks[0].Attrs[0].Expr); got != want {
		t.Errorf("P6.1: Expr of %.300q: %.300q, want %.300q", text, got, want)
	}
	checkFile(t, text, whole)
}

func TestExample(t *testing.T) {
	checkFile(t, "a {x=1+y.z*2}", "a {\n  x = (1 + ((y).z * 2))\n}\n")
}

func TestBlocks(t *testing.T) {
	for text, want := range map[string]string{
		"":                         "",
		"\n\n# r\n":                "",
		"a {}":                     "a {\n}\n",
		"a{\n\n}\n\nb {}\na {}\n":  "a {\n}\nb {\n}\na {\n}\n",
		`a"l"{}`:                   "a \"l\" {\n}\n",
		`a "" "l m" "a" "a" {}`:    "a \"\" \"l m\" \"a\" \"a\" {\n}\n",
		"a \"\\\"\\\\\\$\" {}":     "a \"\\\"\\\\\\$\" {\n}\n",
		"a \"$\t\r\\n\u00e9\" {}":  "a \"\\$\\t\\r\\n\u00e9\" {\n}\n",
		"a {x=1}":                  "a {\n  x = 1\n}\n",
		"a {x=1\ny=2\n\nx=3\n}":    "a {\n  x = 1\n  y = 2\n  x = 3\n}\n",
		"a { b { } }":              "a {\n  b {\n  }\n}\n",
		"a {\nb {}\na {}\nb {}\n}": "a {\n  b {\n  }\n  a {\n  }\n  b {\n  }\n}\n",
		"a {\nb {\nc {x=1}\n}\n}":  "a {\n  b {\n    c {\n      x = 1\n    }\n  }\n}\n",
		"a {\nb {x=1}\ny=2\nc \"l\" {z=3}\nw=4\n}": "a {\n  y = 2\n  w = 4\n  b {\n    x = 1\n  }\n  c \"l\" {\n    z = 3\n  }\n}\n",
		"for {in=1}":        "for {\n  in = 1\n}\n",
		"null {\ntrue=1\n}": "null {\n  true = 1\n}\n",
		"a {x = {\nk = {\nl = [\n1,\n2\n]\n}\n}\n}": "a {\n  x = {\"k\" = {\"l\" = [1, 2]}}\n}\n",
		"a {\nx = <<E\nb\n c\nE\ny = 1\n}":          "a {\n  x = \"b\\n c\\n\"\n  y = 1\n}\n",
	} {
		checkFile(t, text, want)
	}
}

// TestNoPlace has places that aren't ones: their text is empty.
func TestNoPlace(t *testing.T) {
	most := int(^uint(0) >> 1)
	for _, text := range []string{"", "a {}", "a {x=1}", "a {x=1+2*3\ny=\"a${b}\"}"} {
		f := parsed(t, text)
		for _, place := range []int{-1, -2, len(f.Exprs), len(f.Exprs) + 1, cap(f.Exprs), most, -most, -most - 1} {
			if got := Expr(f, place); got != "" && (place < 0 || place >= len(f.Exprs)) {
				t.Errorf("P6.1: %q: the expression %d: %q", text, place, got)
			}
		}
	}
	f, _ := syntax.Parse("a {x=")
	if got := File(f) + Expr(f, 0); got != "" {
		t.Errorf("P6.1: of no file: %q", got)
	}
}

// TestPlaces asks for each expression of a file.
func TestPlaces(t *testing.T) {
	f := parsed(t, "a {x=f(1,b.c)?[{k=\"p${d}$\"}]:!null}")
	for place, want := range []string{"1", "b", "(b).c", "f(1, (b).c)", `"p"`, "d", `"\$"`, `"p${d}\$"`, `{"k" = "p${d}\$"}`, `[{"k" = "p${d}\$"}]`, "null", "(!null)", `(f(1, (b).c) ? [{"k" = "p${d}\$"}] : (!null))`} {
		if got := Expr(f, place); got != want {
			t.Errorf("P6.1: the expression %d: %q, want %q", place, got, want)
		}
	}
}

// TestNoAt changes where all parts of a file are: the texts stay.
func TestNoAt(t *testing.T) {
	for _, c := range pickedFiles(1, 200) {
		f := parsed(t, c.text)
		for i := range f.Exprs {
			f.Exprs[i].At = 7 - i
		}
		for i, b := range f.Blocks {
			f.Blocks[i].At = -1
			for j := range b.Attrs {
				b.Attrs[j].At = 1 << 40
			}
		}
		if got := File(f); got != c.shown {
			t.Errorf("P6.1: %q: %q, want %q, whatever At", c.text, got, c.shown)
		}
	}
}
