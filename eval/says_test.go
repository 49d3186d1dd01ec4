package eval

import (
	"fmt"
	"strings"
	"testing"

	"purlin/api"
	"purlin/jsonc"
	"purlin/syntax"
	"purlin/value"
)

// ahead stands in a file ahead of the one expression that a test has.
const ahead = "a {\nx = "

// parsed answers the file of an expression, and its place.
func parsed(t *testing.T, text string) (api.File, int) {
	t.Helper()
	f, wrong := syntax.Parse(ahead + text + "\n}")
	if wrong != nil {
		t.Fatalf("Parse of %.300q: %v", text, wrong)
	}
	return f, f.Blocks[0].Attrs[0].Expr
}

// withUnknowns answers a value like v, with an unknown for each text that is a ? alone.
func withUnknowns(v api.Value) api.Value {
	if v.Kind == api.KString && v.Text == "?" {
		return value.Unknown()
	}
	v = value.Clone(v)
	for i, item := range v.Items {
		v.Items[i] = withUnknowns(item)
	}
	return v
}

// valueOf reads JSON, in which "?" is an unknown.
func valueOf(t *testing.T, json string) api.Value {
	t.Helper()
	v, wrong := jsonc.Decode(json)
	if wrong != nil {
		t.Fatalf("Decode of %.300q: %v", json, wrong)
	}
	return withUnknowns(v)
}

// shown answers how a value is told, at most so many bytes of that.
func shown(v api.Value) string { return fmt.Sprintf("%.300s", fmt.Sprint(v)) }

const scopeJSON = `{"n":5,"zero":0,"yes":true,"no":false,"s":"k","l":[1,2,3],"o":{"":0,"a":1,"k":"v","in":{"a":[7]}},"lo":[{"a":1,"b":0},{"b":2,"a":2}],
"u":"?","lu":[1,"?"],"ou":{"a":"?","b":1},"llu":[["?"]],"none":null,"a-b_1":"dash","_":"under","for":"four"}`

// check wants an expression, in a scope, to say what is told in JSON.
func check(t *testing.T, scope api.Value, text, want string) {
	t.Helper()
	checkValue(t, scope, text, valueOf(t, want))
}

func checkValue(t *testing.T, scope api.Value, text string, want api.Value) {
	t.Helper()
	f, place := parsed(t, text)
	if got, wrong := Eval(f, place, scope); wrong != nil || !value.Good(got) || !value.Equal(got, want) {
		t.Errorf("P8.1: %.300s: %s, %v, want %s", text, shown(got), wrong, shown(want))
	}
}

// checkWrong wants an expression to be refused; an @ in its text tells where.
func checkWrong(t *testing.T, scope api.Value, marked string, code api.Errno) {
	t.Helper()
	if strings.Count(marked, "@") != 1 {
		t.Fatalf("%s tells no place, or several", marked)
	}
	f, place := parsed(t, strings.Replace(marked, "@", "", 1))
	want := api.Diag{Code: code, At: len(ahead) + strings.Index(marked, "@")}
	got, wrong := Eval(f, place, scope)
	if wrong == nil || *wrong != want {
		t.Errorf("P8.1: %.300s: %s, %v, want %v", marked, shown(got), wrong, want)
	}
	if got.Kind != api.KNull || !value.Good(got) {
		t.Errorf("P7: %.300s: %s beside %v", marked, shown(got), wrong)
	}
}

func checkAll(t *testing.T, wants map[string]string) {
	t.Helper()
	scope := valueOf(t, scopeJSON)
	for text, want := range wants {
		check(t, scope, text, want)
	}
}

func TestAtoms(t *testing.T) {
	checkAll(t, map[string]string{
		"null": "null", "true": "true", "false": "false", "0": "0", "12": "12", `""`: `""`, `"a\n\"\$"`: `"a\n\"$"`,
		"n": "5", "yes": "true", "s": `"k"`, "l": "[1,2,3]", "none": "null", "a-b_1": `"dash"`, "_": `"under"`,
		"u": `"?"`, "lu": `[1,"?"]`, "ou": `{"a":"?","b":1}`, "llu": `[["?"]]`, "(((n)))": "5", "(<<E\na${u}\nE\n)": `"a${u}\n"`,
	})
}

func TestTemplates(t *testing.T) {
	checkAll(t, map[string]string{
		`"a${1}${true}"`: `"a1true"`, `"${1}"`: `"1"`, `"${"a"}"`: `"a"`, `"${no}-${n}-${s}"`: `"false-5-k"`, `"${-n}${1 - 1}"`: `"-50"`,
		`"${"${"x"}y"}z"`: `"xyz"`, `"${""}"`: `""`, `"é${"€"}"`: `"é€"`, `"a${u}"`: `"?"`, `"${u}"`: `"?"`, `"${u}${u}b"`: `"?"`, `"${[u][0]}${n}"`: `"?"`,
	})
}

func TestListsAndObjects(t *testing.T) {
	checkAll(t, map[string]string{
		"[]": "[]", "[1]": "[1]", "[1, [n, []], {}, null]": "[1,[5,[]],{},null]", "[u]": `["?"]`, "[u, [u]]": `["?",["?"]]`,
		"{}": "{}", "{a = 1}": `{"a":1}`, "{b = 1, a = n}": `{"a":5,"b":1}`, "{c = 1, a = 2, b = {z = u, y = []}}": `{"a":2,"b":{"y":[],"z":"?"},"c":1}`,
		`{"" = 1, "é" = 2, "a b" = 3, null = 4}`: `{"":1,"a b":3,"null":4,"é":2}`, "{n = s, s = n}": `{"n":"k","s":5}`, "[l, l]": "[[1,2,3],[1,2,3]]",
	})
}

func TestAttributes(t *testing.T) {
	checkAll(t, map[string]string{
		"o.a": "1", "o.k": `"v"`, "o.in": `{"a":[7]}`, "o.in.a": "[7]", "{b = 1, a = 2}.b": "1", "lo[1].a": "2", "ou.b": "1", "ou.a": `"?"`,
		"u.a": `"?"`, "u.a.b": `"?"`, "ou.a.b": `"?"`, "lu[1].x": `"?"`, "{null = 3}.null": "3", "{for = 3}.for": "3",
	})
}

func TestIndices(t *testing.T) {
	checkAll(t, map[string]string{
		"l[0]": "1", "l[2]": "3", "l[n - 4]": "2", "[[1, 2], [3]][1][0]": "3", `o["a"]`: "1", `o[""]`: "0", "o[s]": `"v"`, `o["in"]["a"][0]`: "7", `{"é" = 1}["é"]`: "1",
		"u[0]": `"?"`, "u[-1]": `"?"`, `u["a"]`: `"?"`, "u[u]": `"?"`, "l[u]": `"?"`, "o[u]": `"?"`, "[][u]": `"?"`, "{}[u]": `"?"`, "lu[0]": "1", "lu[1]": `"?"`, `ou["a"]`: `"?"`, `ou["b"]`: "1", "lu[1][0]": `"?"`, "llu[0]": `["?"]`,
	})
}

func TestSplats(t *testing.T) {
	checkAll(t, map[string]string{
		"[{a = 1}][*].a": "[1]", "lo[*].a": "[1,2]", "lo[*].b": "[0,2]", "[][*].a": "[]", "[o][*].in": `[{"a":[7]}]`, "[o][*].in[*].a": "[[7]]", "lo[*].a[1]": "2",
		"u[*].a": `"?"`, "[u][*].a": `["?"]`, "[{a = 1}, u, ou][*].a": `[1,"?","?"]`, "ou.a[*].b": `"?"`, "[for v in lo : v][*].b": "[0,2]",
	})
}

func TestCalls(t *testing.T) {
	checkAll(t, map[string]string{
		"length(l)": "3", "length([u, u]) == 2 || true": "true", `upper("ab")`: `"AB"`, "max(1, n, 2)": "5", "concat()": "[]", "concat(l, [4], [])": "[1,2,3,4]", `merge(o.in, {b = 1})`: `{"a":[7],"b":1}`,
		"range(3)": "[0,1,2]", "keys(o)": `["","a","in","k"]`, "contains(l, 2)": "true", `join(",", split("-", "a-b"))`: `"a,b"`, "upper(u)": `"?"`, "length(lu)": `"?"`, "upper(u, 1, [])": `"?"`, "max(u)": `"?"`, "values(ou)": `"?"`,
	})
}

func TestSigns(t *testing.T) {
	checkAll(t, map[string]string{
		"-n": "-5", "-0": "0", "-zero": "0", "--n": "5", "-(1 - 3)": "2", "-u": `"?"`, "!yes": "false", "!no": "true", "!!no": "false", "!u": `"?"`,
		"1 + 2 * 3": "7", "n - 7": "-2", "-3 * 4": "-12", "-7 / 2": "-3", "-7 % 2": "-1", "7 / -2": "-3", "7 % -2": "1", "7 / 2": "3", "7 % 2": "1", "0 / 3": "0", "0 % 3": "0",
		"10 - 3 - 2": "5", "99999999999999999999 + 1": "100000000000000000000",
		"u + 1": `"?"`, "1 - u": `"?"`, "u * u": `"?"`, "u / 0": `"?"`, "1 / u": `"?"`, "u % 0": `"?"`, "0 * u": `"?"`,
		"1 < 2": "true", "2 < 2": "false", "3 < 2": "false", "1 > 2": "false", "2 > 2": "false", "3 > 2": "true",
		"1 <= 2": "true", "2 <= 2": "true", "3 <= 2": "false", "1 >= 2": "false", "2 >= 2": "true", "3 >= 2": "true", "10 > 9": "true", "-10 < -9": "true",
		"u < 1": `"?"`, "1 > u": `"?"`, "u <= u": `"?"`, "n >= u": `"?"`,
	})
}

func TestSame(t *testing.T) {
	checkAll(t, map[string]string{
		"1 == 1": "true", "1 == 2": "false", "1 != 1": "false", "1 != 2": "true", `1 == "1"`: "false", `1 != "1"`: "true", "null == null": "true", "null == false": "false",
		"[] == []": "true", "[] == {}": "false", "{a = 1, b = 2} == {b = 2, a = 1}": "true", "[1, 2] != [2, 1]": "true", "l == [1, 2, 3]": "true", `"a" == "a"`: "true", `"" == null`: "false",
		"u == 1": `"?"`, "1 != u": `"?"`, "u == u": `"?"`, "lu == 1": `"?"`, "[u] == [1]": `"?"`, "[u, 1] != [u, 2]": `"?"`, "{} == ou": `"?"`, "llu != llu": `"?"`,
	})
}

// TestTruths has each pair of a truth, the other one and an unknown.
func TestTruths(t *testing.T) {
	checkAll(t, map[string]string{
		"true && true": "true", "true && false": "false", "false && true": "false", "false && false": "false",
		"true || true": "true", "true || false": "true", "false || true": "true", "false || false": "false",
		"u && true": `"?"`, "true && u": `"?"`, "u && false": "false", "false && u": "false", "u && u": `"?"`,
		"u || true": "true", "true || u": "true", "u || false": `"?"`, "false || u": `"?"`, "u || u": `"?"`,
	})
}

func TestConditions(t *testing.T) {
	checkAll(t, map[string]string{
		"yes ? 1 : 2": "1", "no ? 1 : 2": "2", `n > 4 ? "x" : nope`: `"x"`, `n < 4 ? nope : "x"`: `"x"`, "true ? 1 : 1 / 0": "1", "false ? f() : [u]": `["?"]`,
		"u ? 1 : 1": `"?"`, "u ? nope : 1 / 0": `"?"`, "true ? u : 1": `"?"`, "no ? 1 : no ? 2 : 3": "3", "yes ? no ? 1 : 2 : 3": "2",
	})
}

func TestFor(t *testing.T) {
	checkAll(t, map[string]string{
		"[for v in [1, 2] : v * v]": "[1,4]", "[for v in [] : nope]": "[]", "[for v in l : 0]": "[0,0,0]", "[for n in l : n]": "[1,2,3]", "[for v in lo : v.a + v.b]": "[1,4]", "[for l in l : l]": "[1,2,3]",
		"[for v in u : nope]": `"?"`, "[for v in lu : v]": `[1,"?"]`, "[for v in [u] : v + 1]": `["?"]`, "[for v in [u, u] : 1]": "[1,1]", "[for v in l : u]": `["?","?","?"]`,
		"[[for n in l : n], n]": "[[1,2,3],5]", "[[for v in l : 1], [for v in [4] : v]]": "[[1,1,1],[4]]",
		"[for v in [[1], [2, 3]] : [for v in v : -v]]": "[[-1],[-2,-3]]", "[for v in [1, 2] : [[for v in [3] : v], v]]": "[[[3],1],[[3],2]]", "[for n in [1] : [[for n in [2] : n], n, [for w in [3] : n + w]]]": "[[[2],1,[4]]]",
		"[for a in [1, 2] : [for b in [10, 20] : a + b]]": "[[11,21],[12,22]]", "[for null in [1] : null]": "[null]", "[for in in [1] : in]": "[1]", `[for v in [{s = 1}, {s = 2}] : "${v.s}"]`: `["1","2"]`,
	})
}
