package value

import (
	"math/rand"
	"slices"
	"sync"
	"testing"

	"purlin/api"
)

const roomLeft = 3

// roomy answers a value like v, each of whose lists has spare room, filled with what nothing may touch.
func roomy(v api.Value) api.Value {
	items := make([]api.Value, 0, len(v.Items)+roomLeft)
	for _, item := range v.Items {
		items = append(items, roomy(item))
	}
	for i := range items[len(items):cap(items)] {
		items[len(items):cap(items)][i] = api.Value{Kind: api.KString, Text: "spare"}
	}
	keys := append(make([]string, 0, len(v.Keys)+roomLeft), v.Keys...)
	for i := range keys[len(keys):cap(keys)] {
		keys[len(keys):cap(keys)][i] = "spare"
	}
	v.Items, v.Keys = items, keys
	return v
}

// untouched tells whether v is like want still, and its spare room as roomy left it.
func untouched(v, want api.Value) bool {
	if v.Kind != want.Kind || v.Bool != want.Bool || v.Text != want.Text || !slices.Equal(v.Keys, want.Keys) || len(v.Items) != len(want.Items) {
		return false
	}
	for i := range v.Items {
		if !untouched(v.Items[i], want.Items[i]) {
			return false
		}
	}
	for _, item := range v.Items[len(v.Items):cap(v.Items)] {
		if !same(item, api.Value{Kind: api.KString, Text: "spare"}) {
			return false
		}
	}
	for _, key := range v.Keys[len(v.Keys):cap(v.Keys)] {
		if key != "spare" {
			return false
		}
	}
	return true
}

// lists gathers where the values and keys of v stand in memory, spare room included.
func lists(v api.Value, items map[*api.Value]int, keys map[*string]int) {
	for i := range v.Items[:cap(v.Items)] {
		items[&v.Items[:cap(v.Items)][i]]++
	}
	for i := range v.Keys[:cap(v.Keys)] {
		keys[&v.Keys[:cap(v.Keys)][i]]++
	}
	for _, item := range v.Items {
		lists(item, items, keys)
	}
}

// apart tells whether no two lists of these values share memory.
func apart(values ...api.Value) bool {
	items, keys := map[*api.Value]int{}, map[*string]int{}
	for _, v := range values {
		lists(v, items, keys)
	}
	for _, n := range items {
		if n > 1 {
			return false
		}
	}
	for _, n := range keys {
		if n > 1 {
			return false
		}
	}
	return true
}

// answersOf answers what each call makes of two values; what is asked of them alone answers nothing that could share.
func answersOf(a, b api.Value, key string) map[string]api.Value {
	answers := map[string]api.Value{
		"List":        List(a, b),
		"List, twice": List(a, a),
		"Put":         Put(a, key, b),
		"Put, itself": Put(a, key, a),
		"Drop":        Drop(a, key),
		"Clone":       Clone(a),
	}
	answers["Get"], _ = Get(a, key)
	answers["Object"], _ = Object([]string{"b", "a"}, []api.Value{a, b})
	answers["Object, twice"], _ = Object([]string{"a", "b"}, []api.Value{a, a})
	Good(a)
	Equal(a, b)
	Cmp(a, b)
	Known(a)
	Size(a)
	return answers
}

// TestNewMemory wants arguments untouched to their spare room, and answers that share none with them nor within themselves.
func TestNewMemory(t *testing.T) {
	r := rand.New(rand.NewSource(4))
	values := pickValues(200)
	for range 3000 {
		wantA, wantB := values[r.Intn(len(values))], values[r.Intn(len(values))]
		a, b := roomy(wantA), roomy(wantB)
		key := []string{"", "a", "b", "c", "d"}[r.Intn(5)]
		for name, answer := range answersOf(a, b, key) {
			if !apart(a, b, answer) {
				t.Fatalf("P2.3: %s of %v, %v, %q shares memory", name, wantA, wantB, key)
			}
		}
		if !untouched(a, wantA) || !untouched(b, wantB) {
			t.Fatalf("P2.3: %v or %v was changed", wantA, wantB)
		}
	}
}

// spoil writes over all of v's lists, spare room too.
func spoil(v api.Value) {
	for i := range v.Items {
		spoil(v.Items[i])
	}
	for i := range v.Items[:cap(v.Items)] {
		v.Items[:cap(v.Items)][i] = api.Value{Kind: api.KString, Text: "spoilt"}
	}
	for i := range v.Keys[:cap(v.Keys)] {
		v.Keys[:cap(v.Keys)][i] = "spoilt"
	}
}

// TestSpoilt writes over the arguments behind a call, and over an answer ahead of the next one: nothing hangs on them any more.
func TestSpoilt(t *testing.T) {
	values := pickValues(120)
	for i, a := range values {
		b := values[len(values)-1-i]
		want := answersOf(Clone(a), Clone(b), "a")
		argA, argB := roomy(a), roomy(b)
		got := answersOf(argA, argB, "a")
		spoil(argA)
		spoil(argB)
		for name := range want {
			if !same(got[name], want[name]) {
				t.Fatalf("P2.3: %s of %v, %v keeps what was handed in", name, a, b)
			}
		}
		for name := range got {
			spoil(got[name])
		}
		for name, again := range answersOf(Clone(a), Clone(b), "a") {
			if !same(again, want[name]) {
				t.Fatalf("P2.3: %s of %v, %v: another answer behind one that was written over", name, a, b)
			}
		}
	}
}

// TestHandedLists has the lists themselves of List's and Object's arguments, spare room included.
func TestHandedLists(t *testing.T) {
	items := []api.Value{Int(2), List(Int(3)), Text("spare")}
	keys := []string{"b", "a", "spare"}
	list := List(items[:2]...)
	made, err := Object(keys[:2], items[:2])
	_, errRange := Object(keys[:1], items[:2])
	_, errTwice := Object([]string{"a", "a"}, items[:2])
	if err != api.OK || errRange != api.ErrRange || errTwice != api.ErrTwice {
		t.Errorf("P2.1: Object: %d, %d, %d", err, errRange, errTwice)
	}
	if !slices.Equal(keys, []string{"b", "a", "spare"}) || !slices.EqualFunc(items, []api.Value{Int(2), List(Int(3)), Text("spare")}, same) {
		t.Errorf("P2.3: handed in, and changed: %v, %v", keys, items)
	}
	items[1].Items[0], items[0], keys[0], keys[1] = Null(), Null(), "x", "y"
	if !same(list, List(Int(2), List(Int(3)))) || !same(made, raw([]string{"a", "b"}, List(Int(3)), Int(2))) {
		t.Errorf("P2.3: handed in, and kept: %v, %v", list, made)
	}
}

// TestNothingKept asks from many sides at once: the answers hang on the arguments alone (R8), and nobody writes to them.
func TestNothingKept(t *testing.T) {
	values := pickValues(120)
	want := make([]map[string]api.Value, len(values))
	for i, v := range values {
		want[i] = answersOf(v, values[0], "a")
	}
	var all sync.WaitGroup
	for range 4 {
		all.Go(func() {
			for i := len(values) - 1; i >= 0; i-- {
				for name, got := range answersOf(values[i], values[0], "a") {
					if !same(got, want[i][name]) {
						t.Errorf("P7: %s of %v: another answer", name, values[i])
						return
					}
				}
			}
		})
	}
	all.Wait()
}
