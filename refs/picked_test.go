package refs

import (
	"maps"
	"slices"
	"strings"
	"testing"

	"purlin/api"
)

// first answers a reference's first part.
func first(ref string) string {
	name, _, _ := strings.Cut(ref, ".")
	return name
}

// modelOf answers the references of each expression of a file by another way: from inside out, from those of what it is made of.
func modelOf(f api.File) [][]string {
	sets := make([]map[string]bool, len(f.Exprs))
	chains := make([]string, len(f.Exprs)) // of a name, and of attributes upon one: that and those, joined
	answers := make([][]string, len(f.Exprs))
	for i, e := range f.Exprs {
		sets[i] = map[string]bool{}
		if e.Kind == api.XName {
			chains[i] = e.Text
		}
		if e.Kind == api.XAttr && chains[e.Args[0]] != "" {
			chains[i] = chains[e.Args[0]] + "." + e.Text
		}
		for n, arg := range e.Args {
			maps.Copy(sets[i], sets[arg])
			if e.Kind == api.XFor && n == 0 {
				sets[i] = map[string]bool{}
			}
		}
		if e.Kind == api.XFor {
			maps.DeleteFunc(sets[i], func(ref string, _ bool) bool { return first(ref) == e.Text })
			maps.Copy(sets[i], sets[e.Args[0]])
		}
		if chains[i] != "" {
			sets[i] = map[string]bool{chains[i]: true}
		}
		answers[i] = slices.Sorted(maps.Keys(sets[i]))
	}
	return answers
}

// TestPicked has expressions that are picked together with their references.
func TestPicked(t *testing.T) {
	none, hiding, long := 0, 0, 0
	for _, c := range pickedParts(1, 20000) {
		f, place := parsed(t, c.text)
		if got := Of(f, place); !slices.Equal(got, c.refs) {
			t.Fatalf("P9.1: %s: %q, want %q", c.text, got, c.refs)
		}
		switch {
		case len(c.refs) == 0:
			none++
		case strings.Contains(c.text, "[for "):
			hiding++
		case len(c.refs) > 5:
			long++
		}
	}
	if none < 500 || hiding < 2000 || long < 500 {
		t.Errorf("the picked expressions tell too little: %d without references, %d with loops, %d with many", none, hiding, long)
	}
}

// TestEachPlacePicked asks for each expression of a picked one by itself.
func TestEachPlacePicked(t *testing.T) {
	for _, c := range pickedParts(2, 3000) {
		f, _ := parsed(t, c.text)
		for i, want := range modelOf(f) {
			if got := Of(f, i); !slices.Equal(got, want) {
				t.Fatalf("P9.1: %s: the expression %d: %q, want %q", c.text, i, got, want)
			}
		}
	}
}
