package value

import (
	"maps"
	"math/rand"
	"slices"
	"testing"

	"purlin/api"
)

// holds tells whether v is the object of just what the map has.
func holds(v api.Value, model map[string]int) bool {
	if v.Kind != api.KObject || !slices.Equal(v.Keys, slices.Sorted(maps.Keys(model))) || len(v.Items) != len(model) {
		return false
	}
	for i, key := range v.Keys {
		if !same(v.Items[i], Int(model[key])) {
			return false
		}
	}
	return true
}

// TestAgainstMap puts and drops keys as they are picked, beside a map.
func TestAgainstMap(t *testing.T) {
	r := rand.New(rand.NewSource(5))
	keys := []string{"", "\x00", "10", "2", "A", "a", "a\x00", "aa", "b", "\u00e9", "\U00010000", "\xff"}
	for range 50 {
		v, model := object(nil), map[string]int{}
		for range 100 {
			key, n := keys[r.Intn(len(keys))], r.Intn(100)
			if r.Intn(2) == 0 {
				v, model[key] = Put(v, key, Int(n)), n
			} else {
				v = Drop(v, key)
				delete(model, key)
			}
			if !holds(v, model) || !Good(v) || Size(v) != len(model)+1 {
				t.Fatalf("P2.1: %v, want %v", v, model)
			}
			asked := keys[r.Intn(len(keys))]
			got, ok := Get(v, asked)
			n, has := model[asked]
			if ok != has || has && !same(got, Int(n)) || !has && !same(got, Null()) {
				t.Fatalf("P2.1: Get(%v, %q): %v, %t", v, asked, got, ok)
			}
		}
	}
}

// TestObjectAnyOrder wants one object of the same keys, in whatever order they are handed in.
func TestObjectAnyOrder(t *testing.T) {
	r := rand.New(rand.NewSource(6))
	keys := []string{"", "10", "2", "A", "a", "aa", "b", "\xff"}
	for n := range len(keys) + 1 {
		for range 50 {
			picked, items, model := []string{}, []api.Value{}, map[string]int{}
			for _, place := range r.Perm(len(keys))[:n] {
				picked = append(picked, keys[place])
				items = append(items, Int(place))
				model[keys[place]] = place
			}
			if v, err := Object(picked, items); err != api.OK || !holds(v, model) {
				t.Fatalf("P2.1: Object(%q, %v): %v, %d", picked, items, v, err)
			}
		}
	}
}
