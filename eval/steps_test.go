package eval

import (
	"strings"
	"testing"

	"purlin/api"
	"purlin/value"
)

// stepScope has lists for many steps beside names for some.
func stepScope(t *testing.T) api.Value {
	return value.Put(value.Put(valueOf(t, scopeJSON), "outer", nulls(99)), "inner", nulls(198))
}

const (
	// manySteps takes 2 steps, and for each item of outer 3 and one for each item of inner.
	manySteps = "[for a in outer : length([for b in inner : b])]"
	manyTaken = 2 + 99*(3+198)
)

// behind answers a list at whose end an expression stands, which has so many steps left; and at which byte that begins.
func behind(text string, left int) (string, int) {
	zeros := api.MaxSteps - left - 1 - manyTaken // one is the list's own
	whole := "[" + manySteps + strings.Repeat(", 0", zeros) + ", "
	return whole + text + "]", len(whole)
}

// unmarked answers a text without its marks, each an @ and a letter, and where each letter stood.
func unmarked(marked string) (string, map[byte]int) {
	text, places := "", map[byte]int{}
	for {
		plain, rest, more := strings.Cut(marked, "@")
		text += plain
		if !more {
			return text, places
		}
		places[rest[0]], marked = len(text), rest[1:]
	}
}

// TestSteps gives each expression as many steps as it takes, and all numbers that are less: the steps' places are marked, and told in their order.
func TestSteps(t *testing.T) {
	cases := map[string]string{
		"@anull": "a", "@atrue": "a", "@a7": "a", "@an": "a", "((@an))": "a", `@a"x"`: "a", `@a"@bx${@c1}@dy"`: "abcd", `@a"${@b-@c1}${@d"@ez${@fn}"}"`: "abcdef",
		"@a[@b1, @c[@d2], @e3]": "abcde", "@a[]": "a", "@a{z = @b1, y = @c[@d2]}": "abcd", "@bo@a.k": "ab", "@bl@a[@c0]": "abc", "@c{k = @d[@e3]}@b.k@a[@f0]": "abcdef", "@blo@a[*].a": "ab", "@bu@a.b": "ab",
		"@amax(@b1, @c2)": "abc", "@arange(@b3)": "ab", "@aupper(@bu)": "ab", "@aconcat()": "a", "@a-@b1": "ab", "@a!@b!@cyes": "abc",
		"@bno @a&& @cyes": "abc", "@byes @a|| @cno": "abc", "@bu @a&& @c!@dno": "abcd", "@byes @a? @c1 : 2": "abc", "@bno @a? 1 : @c[@d2]": "abcd", "@bu @a? 1 : 2": "ab", "@c1 @b< @d2 @a? @e3 : 4": "abcde",
		"@a[for v in @bl : @c7]": "abccc", "@a[for v in @bl : @dv @c* @e2]": "abcdecdecde", "@a[for v in @b[] : 1]": "ab", "@a[for v in @bu : 1]": "ab", "@b[for v in @cl : @dv]@a[@e0]": "abcddde",
		"@a[for v in @b[@c1, @d2] : @e[for w in @f[@gv] : @hw]]": "abcdefghefgh", "@a[for v in @b[@cno, @dyes] : @fv @e? @g1 : @h[@i2]]": "abcdefhiefg",
	}
	for _, sign := range []string{"+", "-", "*", "/", "%", "==", "!=", "<", ">", "<=", ">="} {
		cases["@b1 @a"+sign+" @c2"] = "abc"
	}
	scope := stepScope(t)
	for marked, order := range cases {
		text, places := unmarked(marked)
		for left := range order {
			whole, begin := behind(text, left)
			at := begin + places[order[left]]
			checkWrong(t, scope, whole[:at]+"@"+whole[at:], api.ErrLong)
		}
		whole, _ := behind(text, len(order))
		f, place := parsed(t, whole)
		if got, wrong := Eval(f, place, scope); wrong != nil {
			t.Errorf("P8.1: %s with %d steps: %s, %v", marked, len(order), shown(got), wrong)
		}
	}
}

// TestStepsFirst has something wrong behind the last step, and at it: what is come to first is told.
func TestStepsFirst(t *testing.T) {
	scope := stepScope(t)
	for _, c := range []struct {
		marked string
		left   int
		code   api.Errno
	}{
		{"[@q, 1]", 2, api.ErrName}, {"[1, @q]", 2, api.ErrLong}, {"1 @/ 0", 3, api.ErrZero}, {"1 / @0", 2, api.ErrLong}, {"@nope()", 1, api.ErrFunc}, {"@nope()", 0, api.ErrLong}, {"@q", 0, api.ErrLong}, {"@q", 1, api.ErrName},
		{`"${@[]}${1}"`, 3, api.ErrType}, {`"${[]}${@1}"`, 2, api.ErrLong}, {"1 @? 2 : 3", 2, api.ErrType}, {"yes ? @2 : 3", 2, api.ErrLong}, {"[for v in l : @v]", 4, api.ErrLong}, {"@[for v in o : v]", 2, api.ErrType},
	} {
		at := strings.Index(c.marked, "@")
		whole, begin := behind(strings.Replace(c.marked, "@", "", 1), c.left)
		checkWrong(t, scope, whole[:begin+at]+"@"+whole[begin+at:], c.code)
	}
}

// TestStepsAnew asks twice: each evaluation has all steps.
func TestStepsAnew(t *testing.T) {
	f, place := parsed(t, manySteps)
	for range 3 {
		if got, wrong := Eval(f, place, stepScope(t)); wrong != nil || len(got.Items) != 99 {
			t.Errorf("P8.1: %d steps: %s, %v", manyTaken, shown(got), wrong)
		}
	}
}
