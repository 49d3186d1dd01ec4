package eval

import (
	"strings"
	"testing"

	"purlin/api"
	"purlin/value"
)

// checkCode wants each of these to be refused with a code; an @ tells where.
func checkCode(t *testing.T, code api.Errno, marked ...string) {
	t.Helper()
	scope := valueOf(t, scopeJSON)
	for _, text := range marked {
		checkWrong(t, scope, text, code)
	}
}

func TestNoName(t *testing.T) {
	checkCode(t, api.ErrName, "@q", "@N", "@a", "@nn", "-@q", "[1, @q, r]", "@q.a", "l[@q]", "{a = 1, b = @q}", `"a${@q}"`, "upper(@q)", "nope(@q)", "@q ? 1 : 2", "yes ? @q : 1", "no ? 1 : @q", "[for v in @q : 1]", "[for v in l : @q]",
		"@v + [for v in l : v][0]", "[[for v in l : v], @v]", "[[for v in [] : v], @v]", "[for v in @v : 1]", "[for v in l : 1][@v]", "[for v in l : [[for w in l : 1], @w]]", "false && @q", "true || @q", "u && @q", "(@q)[*].a", "@for_", "@nope ? u : 1")
	for _, scope := range []api.Value{value.Null(), value.Unknown(), value.List(), value.Text("n"), valueOf(t, "{}"), {Kind: api.KList, Keys: []string{"n"}, Items: make([]api.Value, 1)}, {Kind: api.KObject, Keys: []string{"n"}}} {
		checkWrong(t, scope, "@n", api.ErrName)
		check(t, scope, "[for n in [1] : n]", "[1]")
	}
}

func TestTypeOfTemplates(t *testing.T) {
	checkCode(t, api.ErrType, `"a${@[]}"`, `"${@null}"`, `"${@o}"`, `"${none@.a}"`, `"${u}${@l}"`, `"${@l}${u}"`, `"a${1}b${@{}}c${null}"`, `"${l[0]}${[1][0]}${lo@[0]}"`, `"x${(@lo)}"`, `"${(@none)}"`, `"a${"b${@[]}"}"`, `"${yes @? [] : 1}"`)
}

func TestTypeOfParts(t *testing.T) {
	checkCode(t, api.ErrType, "n@.b", "none@.a", "yes@.a", "s@.a", "l@.a", "lo@.a", "u.a.b + o.a@.b", "o.a@.b", "(1)@.a", "[]@.a")
	checkCode(t, api.ErrType, `l@["a"]`, "l@[true]", "l@[null]", "l@[[]]", "l@[{}]", "o@[0]", "o@[false]", "o@[none]", "o@[l]", "o@[o]", "u@[true]", "u@[null]", "u@[[]]", "u@[o]",
		"n@[0]", "n@[u]", "s@[0]", `s@["a"]`, "none@[u]", "yes@[0]", "yes@[u]", "l[0]@[0]", "[]@[s]", `"ab"@[0]`)
	checkCode(t, api.ErrType, "n@[*].a", "none@[*].a", "o@[*].a", "s@[*].a", "l@[*].a", "[[]]@[*].a", "[{a = 1}, 1]@[*].a", "[u, null]@[*].a", "lo[*].a@[*].b", "[1, {}]@[*].a")
	checkCode(t, api.ErrType, "@[for v in 1 : v]", "@[for v in o : v]", "@[for v in none : nope]", "@[for v in s : v]", "[for v in l : @[for w in v : 1]]", "0 + [1, @[for v in yes : v]][0]")
}

func TestTypeOfSigns(t *testing.T) {
	checkCode(t, api.ErrType, "@-yes", "@-none", "@-s", "@-l", "@-o", "-(@-true)", "@!1", "@!none", "@!s", "@!l", "@!o", "!(@!0)", "1 == @-[]", "@-(1 < 2)", "@!(1 + 2)")
	for _, sign := range []string{"+", "-", "*", "/", "%", "<", ">", "<=", ">="} {
		for _, other := range []string{"yes", `"a"`, "none", "l", "o", "[1]"} {
			checkCode(t, api.ErrType, "1 @"+sign+" "+other, other+" @"+sign+" 1", "u @"+sign+" "+other, other+" @"+sign+" u", other+" @"+sign+" 0", other+" @"+sign+" "+other)
		}
	}
	for _, sign := range []string{"&&", "||"} {
		for _, other := range []string{"1", `"true"`, "none", "l", "o"} {
			for _, truth := range []string{"true", "false", "u", other} {
				checkCode(t, api.ErrType, truth+" @"+sign+" "+other, other+" @"+sign+" "+truth)
			}
		}
	}
	checkCode(t, api.ErrType, "1 @? 2 : 3", "none @? nope : 3", `"true" @? 2 : 1 / 0`, "l @? 2 : 3", "o @? 2 : 3", "(1 @? 2 : 3) ? 4 : 5", "1 + 2 @? 3 : 4")
}

func TestNoElement(t *testing.T) {
	nines := strings.Repeat("9", api.MaxDigits)
	checkCode(t, api.ErrIndex, "o@.b", "o@.A", "{}@.a", "lo[0]@.c", "o.in@.b.c", "o.in@.k", "ou@.c", "{a = 1}@.b")
	checkCode(t, api.ErrIndex, "l@[3]", "l@[-1]", "[]@[0]", "[u]@[1]", "l@["+nines+"]", "l@[-"+nines+"]", "l@[18446744073709551616]", "l@[4294967296]", "l[0] + l@[3]", "[[1]]@[1][5]", `o@["b"]`, `{}@[""]`, `o@["A"]`, `ou@["c"]`, `{a = 1}@["b"]`)
	checkCode(t, api.ErrIndex, "lo@[*].c", "[{}]@[*].a", "[u, {a = 1}, o, {b = 1}]@[*].a", "[{b = 1}, 1]@[*].a")
}

// TestOfLower has what the layers below refuse.
func TestOfLower(t *testing.T) {
	nines := strings.Repeat("9", api.MaxDigits)
	checkCode(t, api.ErrZero, "1 @/ 0", "1 @% 0", "0 @/ zero", "n @% (1 - 1)", "[1, 2 @/ 0, nope]", "(1 @/ 0) / 0", "1 / (1 @% 0)", "-1 @/ 0", "nope(1 @/ 0)")
	checkCode(t, api.ErrLong, nines+" @+ 1", "-"+nines+" @- 1", nines+" @* 2", nines+" @* "+nines, "(1 + "+nines+" @* 10) / 0")
	checkCode(t, api.ErrFunc, "@nope()", "@Upper(s)", "@nope(u)", "@n()", "@l(0)", "1 + @nope(1)", "upper(@nope())", "@for_(1)")
	checkCode(t, api.ErrArgs, "@upper(1)", "@max()", "@upper()", "@upper(s, s)", "@range(99)", "@length(5)", "@toint(s)", `@split("", s)`, "[for v in l : @upper(v)]", "1 + @abs(none)", "upper(@keys(l))")
	checkCode(t, api.ErrLong, `@join("`+strings.Repeat("x", 9000)+`", [s, s, s])`, `@concat([for v in range(32) : range(32)], [for v in range(32) : range(32)])`)
}

// TestFirstWrong has several things wrong: what is come to first is told, parts ahead of what they make.
func TestFirstWrong(t *testing.T) {
	checkCode(t, api.ErrZero, "[1 @/ 0, q]", "(1 @/ 0) + q", "{b = 1 @/ 0, a = q}", `"${1 @/ 0}${q}"`, `"${[]}${1 @/ 0}"`, "max(1 @/ 0, q)", "l[1 @/ 0].q.q", "none[1 @/ 0]", "1 @/ 0 ? q : q", "[for v in [0, 1][1 @/ 0] : q]", "[for v in [1, 0, 2] : 1 @/ v]", "none && 1 @/ 0 == 1", "s + 1 @/ 0", "-(1 @/ 0)", "[for v in [[1, 0], []] : 1 @/ v[1]]")
	checkCode(t, api.ErrName, "[@q, 1 / 0]", "@q + 1 / 0", "{b = @q, a = 1 / 0}", `"${@q}${1 / 0}"`, "max(@q, 1 / 0)", "@q[1 / 0]", "@q ? 1 / 0 : 2", "s + @q", "@q && 1", "l[3 + @q]", "[for v in @q : 1 / 0]")
	checkCode(t, api.ErrType, "(s @+ 1) / 0", "[for v in [0, 1 / 1, s] : 1 / (v @+ 1)]", "-(@-s)", "(none@.a).b", "u + (u @+ s)", "[u @+ s, q]")
}
