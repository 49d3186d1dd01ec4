package refs

import (
	"maps"
	"slices"
	"testing"

	"purlin/api"
	"purlin/eval"
	"purlin/jsonc"
	"purlin/value"
)

const (
	inmost    = `{"a":3,"k":"l","l":[7],"o":{}}`
	inner     = `{"a":1,"k":"a","l":[5,6],"o":` + inmost + `}`
	scopeJSON = `{"n":1,"m":2,"a-b_1":0,"yes":true,"no":false,"s":"k","e":"a","t":"","l":[1,2,3],"_":[0],"o":` + inner + `,"x":{"a":0,"k":"o","l":[],"o":` + inner + `},"var":` + inmost + `,
"lo":[` + inner + `,` + inmost + `],"in":[` + inmost + `],"none":null,"v":4,"w":[8],"for":1,"f":2,"a":3,"y":{"a":1}}`
)

// pickedScope answers what the names mean that are picked, and some that aren't.
func pickedScope(t *testing.T) api.Value {
	t.Helper()
	scope, wrong := jsonc.Decode(scopeJSON)
	if wrong != nil {
		t.Fatal(wrong)
	}
	return value.Put(scope, "u", value.Unknown())
}

// said: what an expression says, or what is wrong.
type said struct {
	value api.Value
	wrong api.Diag
}

func evaluated(f api.File, place int, scope api.Value) said {
	v, wrong := eval.Eval(f, place, scope)
	if wrong != nil {
		return said{wrong: *wrong}
	}
	return said{value: v}
}

func (s said) is(other said) bool {
	return s.wrong == other.wrong && value.Equal(s.value, other.value)
}

// scopes: one, and for each name of it, and one that it hasn't, others that have something else for that; first nothing at all.
type scopes struct {
	one    api.Value
	others map[string][]api.Value
}

func pickedScopes(t *testing.T) scopes {
	all := scopes{pickedScope(t), map[string][]api.Value{}}
	for _, name := range append(slices.Clone(all.one.Keys), "other") {
		all.others[name] = []api.Value{value.Drop(all.one, name)}
		for _, v := range []api.Value{value.Unknown(), value.Null(), value.Text("other"), value.List(value.Int(77))} {
			all.others[name] = append(all.others[name], value.Put(all.one, name, v))
		}
	}
	return all
}

// checkCounts wants an expression to say the same whatever the names mean that aren't the first part of a reference. It answers whether it says a value, and whether that hangs on each other name.
func checkCounts(t *testing.T, text string, f api.File, place int, all scopes) (says, hangs bool) {
	t.Helper()
	was := evaluated(f, place, all.one)
	counts := map[string]api.Value{}
	for _, ref := range Of(f, place) {
		if v, has := value.Get(all.one, first(ref)); has {
			counts[first(ref)] = v
		}
	}
	says, hangs = was.wrong.Code == api.OK, true
	for name, others := range all.others {
		if _, has := counts[name]; has {
			hangs = hangs && !evaluated(f, place, others[0]).is(was)
			continue
		}
		for _, other := range others {
			if got := evaluated(f, place, other); !got.is(was) {
				t.Fatalf("P9.2: %s: %v, with another %s %v", text, was, name, got)
			}
		}
	}
	bare := api.Value{Kind: api.KObject, Keys: slices.Sorted(maps.Keys(counts))}
	for _, name := range bare.Keys {
		bare.Items = append(bare.Items, counts[name])
	}
	if got := evaluated(f, place, bare); !got.is(was) {
		t.Fatalf("P9.2: %s: %v, in a scope of %q alone %v", text, was, bare.Keys, got)
	}
	return says, hangs
}

// TestCounts has the expressions themselves, and each that they are made of.
func TestCounts(t *testing.T) {
	all := pickedScopes(t)
	saying, hanging := 0, 0
	for _, c := range pickedParts(3, 200) {
		f, _ := parsed(t, c.text)
		for i := range f.Exprs {
			says, hangs := checkCounts(t, c.text, f, i, all)
			if says && f.Exprs[i].Kind != api.XName {
				saying++
			}
			if says && hangs && f.Exprs[i].Kind == api.XFor {
				hanging++
			}
		}
	}
	if saying < 1000 || hanging < 20 {
		t.Errorf("the picked expressions tell too little: %d values, %d loops that hang on all of theirs", saying, hanging)
	}
}

// TestHiddenDontCount has names of loops that mean something outside as well.
func TestHiddenDontCount(t *testing.T) {
	all := pickedScopes(t)
	for _, text := range []string{"[for v in l : v]", "[for l in l : l]", "[for n in lo : n.a + m]", "[for v in lo : [for n in v.l : n + v.a]]", "[for o in lo : o.o]", "[for v in l : [for w in [v] : w]]", "{n = m}.n", "{v = l}.v[0]", "[1, [for n in l : n], 2][m]"} {
		f, place := parsed(t, text)
		if says, hangs := checkCounts(t, text, f, place, all); !says || !hangs {
			t.Errorf("P9.2: %s: says a value: %v, hangs on all that count: %v", text, says, hangs)
		}
	}
}
