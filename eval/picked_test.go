package eval

import (
	"fmt"
	"math/rand"
	"slices"
	"strings"
	"testing"

	"purlin/api"
	"purlin/value"
)

// picker picks expressions of a kind that is wanted: n a number, b a truth, s a text, l a list of numbers, o an object, O a list of such. Now and then it picks another one.
type picker struct {
	r     *rand.Rand
	left  int           // about how many parts may still come
	names []([2]string) // of loops that are open: the name, its kind
}

func (p *picker) pick(of ...string) string { return of[p.r.Intn(len(of))] }

// pickedScope answers what the names mean that are picked.
func pickedScope(t *testing.T) api.Value {
	scope := value.Put(valueOf(t, scopeJSON), "great", nulls(1999))
	return value.Put(scope, "nines", api.Value{Kind: api.KInt, Text: strings.Repeat("9", api.MaxDigits)})
}

func (p *picker) expr(kind string) string {
	p.left--
	switch p.r.Intn(60) {
	case 0, 1:
		kind = p.pick("n", "b", "s", "l", "o", "O")
	case 2, 3, 4:
		return "u"
	case 5:
		return p.pick("q", "none", "great", "[great]", "nines", "(nines * n)", "(n / zero)", "w")
	}
	if p.left <= 0 {
		return p.atom(kind)
	}
	if p.r.Intn(8) == 0 {
		return "(" + p.expr("b") + " ? " + p.expr(kind) + " : " + p.expr(kind) + ")"
	}
	return p.made(kind)
}

func (p *picker) atom(kind string) string {
	atoms := map[string][]string{
		"n": {"0", "1", "2", "7", "n", "zero"}, "b": {"true", "false", "yes", "no"}, "s": {"s", `""`, `"a"`, `"éb"`},
		"l": {"l", "lu", "[]", "[3]"}, "o": {"o", "ou", "{a = 2, b = 1}", "{}"}, "O": {"lo", "[o]", "[ou, u]", "[]"},
	}[kind]
	for _, name := range p.names {
		if name[1] == kind {
			atoms = append(atoms, name[0], name[0])
		}
	}
	return p.pick(atoms...)
}

func (p *picker) made(kind string) string {
	switch kind {
	case "n":
		return p.number()
	case "b":
		return p.truth()
	case "s":
		return p.text()
	case "l":
		return p.list()
	case "o":
		return p.pick("{a = "+p.expr("n")+", b = "+p.expr("n")+"}", "{k = "+p.expr("s")+", a = "+p.expr("n")+"}", "merge("+p.expr("o")+", "+p.expr("o")+")", p.post("O")+"["+p.pick("0", "1", p.expr("n"))+"]")
	}
	return p.pick("["+p.expr("o")+", "+p.expr("o")+"]", "["+p.expr("o")+"]", p.loop("l", "n", "o"), p.loop("O", "o", "o"), "concat("+p.expr("O")+", "+p.expr("O")+")")
}

// post picks what something may stand upon.
func (p *picker) post(kind string) string { return "(" + p.expr(kind) + ")" }

func (p *picker) number() string {
	sign := p.pick("+", "+", "-", "*", "/", "%")
	return p.pick("("+p.expr("n")+" "+sign+" "+p.expr("n")+")", p.pick("-", "- ")+p.post("n"), "length("+p.expr(p.pick("s", "l", "o", "O"))+")", p.post("l")+"["+p.pick("0", "1", p.expr("n"))+"]",
		p.post("o")+p.pick(".a", ".a", ".b", `["a"]`), p.pick("max", "max", "min", "maxi")+"("+p.expr("n")+", "+p.expr("n")+")", "abs("+p.expr("n")+")")
}

func (p *picker) truth() string {
	kind := p.pick("n", "b", "s", "l", "o")
	return p.pick("("+p.expr(kind)+p.pick(" == ", " != ")+p.expr(kind)+")", "("+p.expr("n")+p.pick(" < ", " > ", " <= ", " >= ")+p.expr("n")+")",
		"("+p.expr("b")+p.pick(" && ", " || ")+p.expr("b")+")", "!"+p.post("b"), "contains("+p.expr("l")+", "+p.expr("n")+")")
}

func (p *picker) text() string {
	return p.pick(`"a${`+p.expr("n")+"}${"+p.expr("s")+`}"`, `"${`+p.expr("b")+`}"`, "upper("+p.expr("s")+")", p.post("o")+".k", p.post("o")+"["+p.expr("s")+"]", `join("-", ["b", `+p.expr("s")+"])")
}

func (p *picker) list() string {
	return p.pick("["+p.expr("n")+", "+p.expr("n")+"]", "["+p.expr("n")+"]", p.loop("l", "n", "n"), p.loop("O", "o", "n"), p.post("O")+"[*]."+p.pick("a", "a", "b"), "concat("+p.expr("l")+", "+p.expr("l")+")", "range("+p.expr("n")+")")
}

// loop picks one over a list, whose items are of a kind, that makes others.
func (p *picker) loop(list, item, made string) string {
	name := p.pick("v", "w", "n", "s", "in")
	over := p.expr(list)
	outer := p.names
	p.names = append(slices.DeleteFunc(slices.Clone(outer), func(n [2]string) bool { return n[0] == name }), [2]string{name, item})
	text := "[for " + name + " in " + over + " : " + p.expr(made) + "]"
	p.names = outer
	return text
}

// pickedTexts answers so many expressions, short ones and long ones, none too deep to be parsed.
func pickedTexts(seed int64, n int) []string {
	p := picker{r: rand.New(rand.NewSource(seed))}
	var texts []string
	for len(texts) < n {
		p.left = 1 + p.r.Intn(12)
		text := p.expr(p.pick("n", "b", "s", "l", "o", "O"))
		if depth := strings.Count(text, "(") + strings.Count(text, "[") + strings.Count(text, "{"); depth < 20 && len(text) < 2000 {
			texts = append(texts, text)
		}
	}
	return texts
}

// other answers a value like v, with something else in the place of each unknown.
func other(r *rand.Rand, v api.Value) api.Value {
	if v.Kind == api.KUnknown {
		others := []api.Value{value.Null(), value.Bool(true), value.Bool(false), value.Int(0), value.Int(1), value.Int(-7), value.Text(""), value.Text("k"), value.Text("a"), nulls(0), value.List(value.Int(2), value.Int(3)), under("a", value.Int(4)), value.Put(under("k", value.Text("x")), "a", value.Int(1)), value.List(under("a", value.Int(6)))}
		return others[r.Intn(len(others))]
	}
	v = value.Clone(v)
	for i, item := range v.Items {
		v.Items[i] = other(r, item)
	}
	return v
}

// asksUnknown: has an expression's file a name for what isn't known?
func asksUnknown(f api.File) bool {
	return slices.ContainsFunc(f.Exprs, func(e api.Expr) bool {
		return e.Kind == api.XName && slices.Contains([]string{"u", "lu", "ou", "llu"}, e.Text)
	})
}

// checkSettled wants what is known to stay, whatever stands in the place of what isn't. It answers how often something was said.
func checkSettled(t *testing.T, r *rand.Rand, scope api.Value, text string, tries int) int {
	t.Helper()
	f, place := parsed(t, text)
	got, wrong := Eval(f, place, scope)
	if wrong != nil || !value.Known(got) || !asksUnknown(f) {
		return 0
	}
	said := 0
	for range tries {
		known := other(r, scope)
		again, wrong := Eval(f, place, known)
		if wrong != nil {
			continue
		}
		said++
		if !value.Equal(again, got) {
			t.Fatalf("P8.2: %s: %s with unknowns, %s with %s", text, shown(got), shown(again), fmt.Sprint(known))
		}
	}
	return said
}

// TestUnknownStays has expressions as they are picked, and some that have an unknown where it mayn't matter.
func TestUnknownStays(t *testing.T) {
	r := rand.New(rand.NewSource(3))
	scope := valueOf(t, scopeJSON)
	said := 0
	for _, text := range pickedTexts(2, 20000) {
		said += checkSettled(t, r, scope, text, 6)
	}
	if said < 3000 {
		t.Errorf("the picked expressions tell too little: %d answers", said)
	}
	for _, text := range []string{"u && false", "false && u", "u || true", "true || u", "[u, 1][1]", "{a = u, b = 2}.b", "{a = u, b = 2}[\"b\"]", "true ? 1 : u", "false ? u : 1", "lu[0]", "ou.b", "[for v in lu : 1]", "[for v in [u, u] : n]", "[{a = 1, b = u}][*].a", "[for u in l : u]", "[u == u, 1][1]", "length([for v in [u] : 0])"} {
		if checkSettled(t, r, scope, text, 100) == 0 {
			t.Errorf("P8.2: %s: nothing is said", text)
		}
	}
}
