package eval

import (
	"strings"
	"testing"

	"purlin/api"
	"purlin/value"
)

// nulls answers a list of so many.
func nulls(n int) api.Value { return api.Value{Kind: api.KList, Items: make([]api.Value, n)} }

// nested answers a null within so many lists.
func nested(lists int) api.Value {
	v := value.Null()
	for range lists {
		v = value.List(v)
	}
	return v
}

// under answers an object with a key alone.
func under(key string, item api.Value) api.Value { return value.Put(value.Null(), key, item) }

// scopeOf answers a scope of these.
func scopeOf(values map[string]api.Value) api.Value {
	scope := api.Value{Kind: api.KObject}
	for name, v := range values {
		scope = value.Put(scope, name, v)
	}
	return scope
}

// longest answers a text of as many bytes as one may have.
func longest() string { return strings.Repeat("x", api.MaxText) }

// greatScope has values that are as great, as deep or as long as may be, and such that are one short of that.
func greatScope() api.Value {
	return scopeOf(map[string]api.Value{
		"great": nulls(1999), "less": nulls(1998), "half": nulls(998), "greatobj": under("k", nulls(1998)),
		"deep": nested(23), "flat": nested(22), "long": value.Text(longest()), "short": value.Text(longest()[1:]),
		"two": value.List(value.Bool(true), value.Bool(false)), "u": value.Unknown(), "no": value.Bool(false),
	})
}

// TestGreatest has what is as great as may be: it is what is said.
func TestGreatest(t *testing.T) {
	halves := value.List(nulls(998), nulls(998))
	for text, want := range map[string]api.Value{
		"great":                        nulls(1999),
		"[less]":                       value.List(nulls(1998)),
		"[greatobj.k]":                 value.List(nulls(1998)),
		"{k = less}":                   under("k", nulls(1998)),
		"[half, half]":                 halves,
		"[half, half, null]":           value.List(nulls(998), nulls(998), value.Null()),
		"{a = half, b = half, c = no}": value.Put(value.Put(under("a", nulls(998)), "b", nulls(998)), "c", value.Bool(false)),
		"[for v in great : v]":         nulls(1999),
		"[for v in [0] : less]":        value.List(nulls(1998)),
		"[for v in two : half]":        halves,
		"[{k = half}][*].k":            value.List(nulls(998)),
		"[{k = half}, {k = []}][*].k":  value.List(nulls(998), nulls(0)),
		"concat(less, [null])":         nulls(1999),
		"less == great":                value.Bool(false),
		"no ? [great] : great":         nulls(1999),
		"great[1998]":                  value.Null(),
		"[deep[0]]":                    nested(23),
		"[flat]":                       nested(23),
		"{k = flat}":                   under("k", nested(22)),
		"[for v in [0] : flat]":        nested(23),
		"[for v in deep : v]":          nested(23),
		"deep == [flat]":               value.Bool(true),
		"long":                         value.Text(longest()),
		`"${long}"`:                    value.Text(longest()),
		`"${long}${""}"`:               value.Text(longest()),
		`"x${short}"`:                  value.Text(longest()),
		`"${short}${7}"`:               value.Text(longest()[1:] + "7"),
		"upper(long)":                  value.Text(strings.ToUpper(longest())),
		"[long, long]":                 value.List(value.Text(longest()), value.Text(longest())),
	} {
		checkValue(t, greatScope(), text, want)
	}
}

// TestTooGreat has what would be one value too great, one too deep, or a byte too long.
func TestTooGreat(t *testing.T) {
	nines := strings.Repeat("9", api.MaxDigits)
	for _, marked := range []string{
		"@[great]", "@[less, null]", "@[half, half, null, null]", "@[greatobj]", "[[@[great]]]", "1 + length(@[great])", "@[great] == great", "no ? 1 : @[great]", "(@[great, great])[0]",
		"@{k = great}", "@{b = half, a = half, c = 1, d = 2}", `@{k = great}["k"]`, "(@{k = less, l = 0}).k",
		"@[for v in great : [v]]", "@[for v in great : great]", "@[for v in [0] : great]", "@[for v in two : less]", "[for v in two : @[great]]",
		"@concat(great, [null])", "@merge({k = half}, {l = half, m = [1]})",
		"@[deep]", "@{k = deep}", "@[[flat]]", "[@[deep]]", "{a = 1, k = @[deep]}", "@[for v in [0] : deep]", "@[for v in [0] : [flat]]", "@[for v in deep : [v]]", "(@[deep])[*].k",
		`@"x${long}"`, `@"${long}${1}"`, `@"${short}${no}"`, `@"${long}${long}"`, `"a${@"${long}x"}"`, `[1, @"${short}${10}"]`, `@join("", [long, "x"])`,
		nines + " @+ 1", "[1, 2 * (" + nines + " @* 10)]",
	} {
		checkWrong(t, greatScope(), marked, api.ErrLong)
	}
}

// TestLongComesLast has what would be too great, with something else wrong, or not yet known, in its parts.
func TestLongComesLast(t *testing.T) {
	for marked, code := range map[string]api.Errno{
		"[great, great, @q]": api.ErrName, "{a = great, b = 1 @/ 0}": api.ErrZero, `"${long}${long}${@q}"`: api.ErrName, `"${long}${long}${@[]}"`: api.ErrType, "[for v in [0, 0, 1] : v == 0 ? great : @q]": api.ErrName,
	} {
		checkWrong(t, greatScope(), marked, code)
	}
	check(t, greatScope(), `"${long}${long}${u}"`, `"?"`)
	check(t, greatScope(), `"${u}${long}x"`, `"?"`)
}

// TestNames has a scope of any size, and values in it that are too great or too deep: such a name is refused where it is asked for.
func TestNames(t *testing.T) {
	parts := value.Put(under("a", nulls(1500)), "b", nulls(1500))
	scope := scopeOf(map[string]api.Value{"too": parts, "list": value.List(nulls(1000), nulls(1000)), "far": nested(24), "fine": nulls(1500), "five": value.List(value.Int(5))})
	for _, marked := range []string{"@too", "@list", "@far", "@too.a", "@list[0]", "length(@far)", "[1, @too]", "[for v in @list : 1]", "[for v in fine : @far]", "@too == 1", "@too && true", "2 * @far", `"${@too}"`, "[[for far in five : far], @far]", "@far[*].x", "@too ? 1 : 2", "!@too"} {
		checkWrong(t, scope, marked, api.ErrLong)
	}
	check(t, scope, "length(fine)", "1500")
	check(t, scope, "true ? 1 : far", "1")
	check(t, scope, "[for too in five : too + 1]", "[6]")
	check(t, scope, "[[for far in five : far], [for far in [7] : far]]", "[[5],[7]]")
	many := api.Value{Kind: api.KObject}
	for i := range 5000 {
		many.Keys = append(many.Keys, string([]byte{'a' + byte(i/676), 'a' + byte(i/26%26), 'a' + byte(i%26)}))
		many.Items = append(many.Items, value.Int(i))
	}
	check(t, many, "[aaa, aab, baa, hka]", "[0,1,676,4992]")
	checkWrong(t, many, "[aaa, @zzz]", api.ErrName)
}
