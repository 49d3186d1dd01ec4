package eval

import (
	"math/rand"
	"strings"
	"testing"

	"purlin/api"
	"purlin/value"
)

// wrongScopes answers scopes that are none, and some with values that aren't good.
func wrongScopes() []api.Value {
	knot := api.Value{Kind: api.KList, Items: make([]api.Value, 3)}
	for i := range knot.Items {
		knot.Items[i] = knot
	}
	names := []string{"a", "b", "c"}
	return []api.Value{
		{}, {Kind: 9}, {Kind: -1, Keys: names}, {Kind: api.KObject, Keys: names}, {Kind: api.KObject, Items: make([]api.Value, 3)}, {Kind: api.KObject, Keys: names, Items: make([]api.Value, 2)}, {Kind: api.KObject, Keys: []string{"b", "a", "b"}, Items: make([]api.Value, 5)},
		{Kind: api.KObject, Keys: names, Items: []api.Value{{Kind: 9}, {Kind: api.KInt, Text: "01"}, {Kind: api.KObject, Keys: names}}},
		{Kind: api.KObject, Keys: names, Items: []api.Value{knot, value.Int(1), knot}},
	}
}

// checkEnds wants an answer, whatever it says; beside what is wrong no value.
func checkEnds(t *testing.T, f api.File, place int, scope api.Value) {
	t.Helper()
	v, wrong := Eval(f, place, scope)
	if wrong != nil && (wrong.Code == api.OK || wrong.File != "" || v.Kind != api.KNull) {
		t.Errorf("P7: %s beside %v", shown(v), *wrong)
	}
}

// TestNoPlace has places that aren't of the file.
func TestNoPlace(t *testing.T) {
	f, last := parsed(t, "[1, [a]]")
	for _, place := range []int{-1, last + 1, -1 << 63, 1<<63 - 1} {
		for _, file := range []api.File{f, {}} {
			if v, wrong := Eval(file, place, value.Null()); wrong == nil || v.Kind != api.KNull {
				t.Errorf("P6: the expression %d: %s, %v", place, shown(v), wrong)
			}
		}
	}
}

// TestNoFile has files that no text is parsed to: nothing is promised of them but that each call ends, and none panics (P6).
func TestNoFile(t *testing.T) {
	scopes, tried := wrongScopes(), 0
	for kind := api.ExprKind(-1); kind <= api.XSplat+1; kind++ {
		for _, args := range [][]int{nil, {0}, {0, 0}, {1}, {1, 1}, {1, 1, 1}, {1, 0, 1}, {2, 1}, {3, 1}, {3, 3, 0}, {-1}, {1, -1, 7}, {1 << 62, 1}} {
			for _, keys := range [][]string{nil, {"t"}, {"b", "a"}, {"a", "a"}, {"a", "b", strings.Repeat("k", api.MaxText+1)}} {
				if kind != api.XObject && kind != api.XTemplate && keys != nil {
					continue
				}
				f := api.File{Exprs: []api.Expr{{Kind: kind, Text: "a", Args: args, Keys: keys, At: 7}, {Kind: api.XInt, Text: "1"}, {Kind: api.XInt, Text: "01"}, {Kind: api.XList, Args: []int{1, 1}}, {Kind: api.XText, Text: strings.Repeat("x", api.MaxText+1)}}}
				for place := range f.Exprs {
					tried++
					checkEnds(t, f, place, scopes[tried%len(scopes)])
				}
			}
		}
	}
}

// TestPickedWrongs has expressions that are picked without a thought of what they are made of.
func TestPickedWrongs(t *testing.T) {
	r := rand.New(rand.NewSource(6))
	scopes := append(wrongScopes(), valueOf(t, `{"a":[1,2,3],"b":{"a":1},"c":true}`))
	for range 300 {
		f := api.File{}
		for range 1 + r.Intn(8) {
			e := api.Expr{Kind: api.ExprKind(r.Intn(33) - 1), Text: []string{"a", "b", "c", "1", ""}[r.Intn(5)], Keys: []string{"a", "b", "t", "a"}[:r.Intn(5)]}
			for range r.Intn(4) {
				e.Args = append(e.Args, r.Intn(10)-1)
			}
			f.Exprs = append(f.Exprs, e)
		}
		for place := -1; place <= len(f.Exprs); place++ {
			checkEnds(t, f, place, scopes[r.Intn(len(scopes))])
		}
	}
}

// TestRound has an expression that is made of itself: it has no more steps than others.
func TestRound(t *testing.T) {
	for _, kind := range []api.ExprKind{api.XNeg, api.XList, api.XCond, api.XFor, api.XTemplate, api.XAnd, api.XCall} {
		f := api.File{Exprs: []api.Expr{{Kind: kind, Args: []int{0, 0, 0}, At: 3}}}
		if v, wrong := Eval(f, 0, value.Null()); wrong == nil || *wrong != (api.Diag{Code: api.ErrLong, At: 3}) {
			t.Errorf("P6: the kind %d of itself: %s, %v", kind, shown(v), wrong)
		}
	}
}

// TestManySteps has what costs most in so many steps: great values, again and again.
func TestManySteps(t *testing.T) {
	keys := api.Value{Kind: api.KObject, Items: make([]api.Value, 1999)}
	for i := range 1999 {
		keys.Keys = append(keys.Keys, strings.Repeat("k", 100)+string([]byte{byte(i >> 8), byte(i)}))
	}
	scope := scopeOf(map[string]api.Value{"great": nulls(1999), "keys": keys, "long": value.Text(longest()), "l": nulls(1998), "m": nulls(9)})
	for _, text := range []string{
		"[for v in l : great]", "[for v in l : [m, keys == keys]]", `[for v in l : lookup({a = 1}, "b", great)]`, "[for v in l : values(keys)]",
		"[for w in l : [for v in l : keys]]", "[for w in m : length([for v in l : great == great])]", `[for w in m : length([for v in l : "${long}" == ""])]`, "[for w in m : length([for v in l : keys == keys ? 1 : 2])]",
	} {
		f, place := parsed(t, text)
		if v, wrong := Eval(f, place, scope); wrong == nil || wrong.Code != api.ErrLong || v.Kind != api.KNull {
			t.Errorf("P8.1: %s: %s, %v, want ErrLong", text, shown(v), wrong)
		}
	}
	check(t, scope, "length([for v in l : great == great ? 1 : 2])", "1998")
}
