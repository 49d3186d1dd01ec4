package refs

import (
	"slices"
	"strings"
	"testing"

	"purlin/api"
	"purlin/syntax"
)

// parsed answers the file of an expression, and its place.
func parsed(t *testing.T, text string) (api.File, int) {
	t.Helper()
	f, wrong := syntax.Parse("a {\nx = " + text + "\n}")
	if wrong != nil {
		t.Fatalf("Parse of %.300q: %v", text, wrong)
	}
	return f, f.Blocks[0].Attrs[0].Expr
}

// check wants these references of an expression, with a blank between each two.
func check(t *testing.T, text, want string) {
	t.Helper()
	f, place := parsed(t, text)
	if got := strings.Join(Of(f, place), " "); got != want {
		t.Errorf("P9.1: %.300s: %.300s, want %.300s", text, got, want)
	}
}

// TestExamples has those of the chapter.
func TestExamples(t *testing.T) {
	check(t, "var.a + r.n[0].id", "r.n var.a")
	check(t, "[for v in l : v.x + y]", "l y")
	check(t, `"${local.b.c}"`, "local.b.c")
	check(t, "x[*].id", "x")
	check(t, "f(1)", "")
}

// TestNames has a name that is the whole expression.
func TestNames(t *testing.T) {
	for _, name := range []string{"x", "_", "a-b_9--", "var", "in", "e", "t", "Null", strings.Repeat("n", api.MaxName)} {
		check(t, name, name)
		check(t, "("+name+")", name)
		check(t, name+"."+name, name+"."+name)
	}
}

// TestNone has what refers to nothing, though names stand in it.
func TestNone(t *testing.T) {
	for _, text := range []string{
		"null", "true", "false", "1", "-1", "!true", `""`, `"x"`, `"x.y"`, `"\${x}"`, "[]", "{}", "f()", "[1, 2]", `f(g(1), "x")`,
		"{x = 1, y = 2}", `{"x" = {y = 1}}`, "1.x", "true.x.y", "null.x", `"t".x`, "f().x", "f(1).x.y", "[1].x", "[1][*].x", "{x = 1}.x", "(1 + 2).x",
		"[for v in [1] : 2]", "[for v in [1] : v]", "[for v in [{x = 1}] : v.x.y]", "[for null in [1] : null]", "1 ? 2 : 3", "<<E\n${x}\nE",
	} {
		check(t, text, "")
	}
	f, place := parsed(t, "f(1)")
	if got := Of(f, place); len(got) != 0 {
		t.Errorf("P9.1: f(1): %q", got)
	}
}

// TestAttrs has attributes that stand one upon the other, upon a name and upon something else.
func TestAttrs(t *testing.T) {
	for text, want := range map[string]string{
		"x.y":                            "x.y",
		"x.y.z":                          "x.y.z",
		"x . y . z":                      "x.y.z",
		"(x\n.\ny)":                      "x.y",
		"(x).y":                          "x.y",
		"((x.y)).z":                      "x.y.z",
		"x.x.x":                          "x.x.x",
		"x.null.for":                     "x.null.for",
		"module.m.o":                     "module.m.o",
		"each.value.a.b":                 "each.value.a.b",
		"(x + y).z":                      "x y",
		"(-x.y).z":                       "x.y",
		"f(x.y).z":                       "x.y",
		"[x.y].z":                        "x.y",
		"{a = x.y}.a":                    "x.y",
		"(a ? b : c).z":                  "a b c",
		"[for v in x.y : 1].z":           "x.y",
		`"${x.y}".z`:                     "x.y",
		"x" + strings.Repeat(".y", 99):   "x" + strings.Repeat(".y", 99),
		"f(x)" + strings.Repeat(".y", 9): "x",
	} {
		check(t, text, want)
	}
}

// TestPosts has an index or a splat, behind which no attribute stands directly upon the name any more.
func TestPosts(t *testing.T) {
	for text, want := range map[string]string{
		"x[0]":                 "x",
		"x[0].y":               "x",
		"x.y[0].z":             "x.y",
		"x.y[0].z.w[1].v":      "x.y",
		"x[y]":                 "x y",
		"x[y].z":               "x y",
		"x.a[y.b].z":           "x.a y.b",
		"a[b.c].d":             "a b.c",
		"x[y[z.a].b].c":        "x y z.a",
		`x["y"].z`:             "x",
		"x[*].y":               "x",
		"x[*].y.z":             "x",
		"x.y[*].z":             "x.y",
		"x.y[*].z[*].w":        "x.y",
		"(x[0]).y":             "x",
		"(x.y)[*].z":           "x.y",
		"[x, y.a][n.b].z":      "n.b x y.a",
		"f(x)[y.a][*].z":       "x y.a",
		"x.y[0].z + x.y.z + x": "x x.y x.y.z",
	} {
		check(t, text, want)
	}
}

// TestParts has a reference in each part of each kind of expression.
func TestParts(t *testing.T) {
	for text, want := range map[string]string{
		"[a, b.c, 1, d]":                     "a b.c d",
		"{a = b, c = d.e}":                   "b d.e",
		"{a = b, c = d.e}.a":                 "b d.e",
		`{"k" = a, b = {c = d}}`:             "a d",
		"f(a, b.c, g(d))":                    "a b.c d",
		"a(a)":                               "a",
		"-a":                                 "a",
		"!a.b":                               "a.b",
		"- - ! a":                            "a",
		"a ? b : c":                          "a b c",
		"a.x ? b.x : c.x ? d.x : e.x":        "a.x b.x c.x d.x e.x",
		"true ? a : b":                       "a b",
		`"p${a}q${b.c}${1}"`:                 "a b.c",
		`"${"${a}${b.c}"}"`:                  "a b.c",
		`"${f("${a}", [b])} ${ {k = c}.k }"`: "a b c",
		`"${t}${e}t${e.t}"`:                  "e e.t t",
		"false && a || true":                 "a",
	} {
		check(t, text, want)
	}
	for _, sign := range []string{"+", "-", "*", "/", "%", "==", "!=", "<", ">", "<=", ">=", "&&", "||"} {
		check(t, "a.b "+sign+" c", "a.b c")
		check(t, "a "+sign+" (b "+sign+" c.d)", "a b c.d")
	}
}

// TestOrder wants each reference once, rising as texts, byte by byte.
func TestOrder(t *testing.T) {
	for text, want := range map[string]string{
		"x + x + x.y":       "x x.y",
		"x.y + x + x.y + x": "x x.y",
		"[x, x, (x), -x]":   "x",
		"[b, a, c]":         "a b c",
		"[ab, a.b, a_b, a-b, a0, aB, a, a.a, Z, _, a.b.c]": "Z _ a a-b a.a a.b a.b.c a0 aB a_b ab",
		"[a10, a9, a1]":              "a1 a10 a9",
		"[for v in l : [l, v, l.v]]": "l l.v",
	} {
		check(t, text, want)
	}
}

// TestFor has names of loops: hidden in the second part, and there alone.
func TestFor(t *testing.T) {
	for text, want := range map[string]string{
		"[for v in l : v]":                               "l",
		"[for v in l : v.a.b]":                           "l",
		"[for v in l : v[0].a + v[*].b]":                 "l",
		"[for v in v : v]":                               "v",
		"[for v in v.a : v.b]":                           "v.a",
		"[for v in l : w]":                               "l w",
		"[for v in l : w.v]":                             "l w.v",
		"[for v in l : vv + V + v-v]":                    "V l v-v vv",
		"[for v in l : v(v)]":                            "l",
		"[for v in l : {v = v}]":                         "l",
		`[for v in l : "${v}${w}"]`:                      "l w",
		"[for v in l : x[v.a].b]":                        "l x",
		"[for v in l : v] == v":                          "l v",
		"v + [for v in l : v.a]":                         "l v",
		"[[for v in l : v], v.a, [for w in m : v]]":      "l m v v.a",
		"[for v in l : v][v.a]":                          "l v.a",
		"[for in in in.in : in]":                         "in.in",
		"[for e in l : e] + [for t in l : t]":            "l",
		"[for a in l : [for b in m : a + b + c]]":        "c l m",
		"[for a in l : [for b in a : a + b]]":            "l",
		"[for a in b : [for b in a : a + b]]":            "b",
		"[for a in l : [for a in a.x : a.y]]":            "l",
		"[for a in l : [[for a in m : a], a.z]]":         "l m",
		"[for a in l : [[for b in m : b], b.z]]":         "b.z l m",
		"[for a in [for b in l : b + a] : b]":            "a b l",
		"[for a in [for a in a.x : a.y] : a.z]":          "a.x",
		"[for v in l : v.a ? v.b : v.c].d":               "l",
		"[for v in l : (v).a]":                           "l",
		"[for v in l : [for w in v : w.a + v + w]] == w": "l w",
	} {
		check(t, text, want)
	}
}

// TestEachPlace asks for each expression of a file by itself: what stands around it doesn't matter.
func TestEachPlace(t *testing.T) {
	f, place := parsed(t, "[for v in l.a : v.x[w] + 1]")
	for kind, want := range map[api.ExprKind]string{api.XFor: "l.a w", api.XAdd: "v.x w", api.XIndex: "v.x w", api.XInt: ""} {
		at := slices.IndexFunc(f.Exprs, func(e api.Expr) bool { return e.Kind == kind })
		if got := strings.Join(Of(f, at), " "); got != want {
			t.Errorf("P9.1: the expression %d, of the kind %d: %s, want %s", at, kind, got, want)
		}
	}
	names := ""
	for i, e := range f.Exprs[:place] {
		if e.Kind == api.XName {
			names += strings.Join(Of(f, i), " ") + " "
		}
	}
	if names != "l v w " {
		t.Errorf("P9.1: names by themselves: %s", names)
	}
}

// TestManyAttributes has more than one expression in a file: each has its own references.
func TestManyAttributes(t *testing.T) {
	f, wrong := syntax.Parse("r \"t\" \"n\" {\n a = x.a\n b {\n c = [for x in y : x]\n }\n d = x\n}\nq { e = 1 }")
	if wrong != nil {
		t.Fatal(wrong)
	}
	for name, want := range map[string]string{"a": "x.a", "c": "y", "d": "x", "e": ""} {
		for _, b := range f.Blocks {
			for _, a := range b.Attrs {
				if got := strings.Join(Of(f, a.Expr), " "); a.Name == name && got != want {
					t.Errorf("P9.1: %s: %s, want %s", name, got, want)
				}
			}
		}
	}
}
