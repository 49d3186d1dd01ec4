package eval

import (
	"reflect"
	"slices"
	"sync"
	"testing"

	"purlin/api"
	"purlin/value"
)

// withRoom answers a copy of a list, with room behind it in which something stands that nobody may touch.
func withRoom[T any](list []T, room T) []T {
	return append(append(make([]T, 0, len(list)+1), list...), room)[:len(list)]
}

// roomy answers a value like v, each of whose lists has room.
func roomy(v api.Value) api.Value {
	v.Keys, v.Items = withRoom(v.Keys, "room"), withRoom(v.Items, value.Text("room"))
	for i, item := range v.Items {
		v.Items[i] = roomy(item)
	}
	return v
}

func roomyFile(f api.File) api.File {
	f.Exprs, f.Blocks, f.Top = withRoom(f.Exprs, api.Expr{Text: "room"}), withRoom(f.Blocks, api.Block{Type: "room"}), withRoom(f.Top, -9)
	for i, e := range f.Exprs {
		f.Exprs[i].Args, f.Exprs[i].Keys = withRoom(e.Args, -9), withRoom(e.Keys, "room")
	}
	return f
}

// whole answers what a value and all lists in it have, the room included.
func whole(v api.Value) []any {
	all := []any{v.Kind, v.Bool, v.Text, v.Keys[:cap(v.Keys)], len(v.Items)}
	for _, item := range v.Items {
		all = append(all, whole(item)...)
	}
	for _, room := range v.Items[len(v.Items):cap(v.Items)] {
		all = append(all, room.Text)
	}
	return all
}

func wholeFile(f api.File) []any {
	all := []any{f.Exprs[:cap(f.Exprs)], f.Blocks[:cap(f.Blocks)], f.Top[:cap(f.Top)]}
	for _, e := range f.Exprs {
		all = append(all, e.Args[:cap(e.Args)], e.Keys[:cap(e.Keys)])
	}
	return all
}

// places counts where the items and keys of lists stand, the room included.
type places struct {
	items map[*api.Value]int
	keys  map[*string]int
}

func (p places) gather(v api.Value) {
	items, keys := v.Items[:cap(v.Items)], v.Keys[:cap(v.Keys)]
	for i := range items {
		p.items[&items[i]]++
	}
	for i := range keys {
		p.keys[&keys[i]]++
	}
	for _, item := range v.Items {
		p.gather(item)
	}
}

// shared: was a place met twice?
func (p places) shared() bool {
	for _, n := range p.items {
		if n > 1 {
			return true
		}
	}
	for _, n := range p.keys {
		if n > 1 {
			return true
		}
	}
	return false
}

// spoil writes over all lists of v, the room too.
func spoil(v api.Value) {
	for _, item := range v.Items {
		spoil(item)
	}
	for i := range v.Items[:cap(v.Items)] {
		v.Items[:cap(v.Items)][i] = value.Text("spoilt")
	}
	for i := range v.Keys[:cap(v.Keys)] {
		v.Keys[:cap(v.Keys)][i] = "spoilt"
	}
}

// handedOn has expressions that say what the scope has, once or more often.
func handedOn() []string {
	return []string{
		"l", "o", "lo", "[l, l]", "{a = o, b = o}", "[for v in l : l]", "[for v in lo : v]", "[for v in [o, o] : [v, v]]", "lo[0]", "o.in", `o["in"]["a"]`, "[o, o][*].in", "yes ? lo : l", "no ? l : o", "values(o)", "concat(lo, lo)", "merge(o, {z = o})", "lookup(o, \"q\", lo)", "[lu, ou, llu]", "keys(o)", "reverse([l, lo])", "[for v in [1] : [for w in lo : [w, w.a, lo]]]", "((l))", "[[l][0], [l][0]]",
	}
}

// TestNewMemory wants file and scope untouched, and answers that share no list with the scope, nor two of their own.
func TestNewMemory(t *testing.T) {
	plain := valueOf(t, scopeJSON)
	for _, text := range append(handedOn(), pickedTexts(4, 1500)...) {
		parsedFile, place := parsed(t, text)
		f, scope := roomyFile(parsedFile), roomy(plain)
		fileWas, scopeWas := roomyFile(parsedFile), roomy(plain)
		got, wrong := Eval(f, place, scope)
		if !reflect.DeepEqual(wholeFile(f), wholeFile(fileWas)) || !reflect.DeepEqual(whole(scope), whole(scopeWas)) {
			t.Fatalf("P8.3: %s changed what was handed in", text)
		}
		p := places{map[*api.Value]int{}, map[*string]int{}}
		p.gather(scope)
		p.gather(got)
		for _, e := range f.Exprs {
			p.gather(api.Value{Keys: e.Keys})
		}
		if p.shared() {
			t.Fatalf("P8.3: %s: %s shares memory", text, shown(got))
		}
		kept := value.Clone(got)
		spoil(scope)
		if !value.Equal(got, kept) {
			t.Fatalf("P8.3: %s: the answer hangs on the scope", text)
		}
		spoil(got)
		if again, wrongAgain := Eval(f, place, scopeWas); !sameDiag(wrong, wrongAgain) || !value.Equal(again, kept) {
			t.Fatalf("P8.3: %s: %s behind an answer that was written over, want %s", text, shown(again), shown(kept))
		}
	}
}

// TestNothingKept asks from many sides at once: the answers hang on the arguments alone (R8), and nobody writes to them.
func TestNothingKept(t *testing.T) {
	scope := pickedScope(t)
	names := boundIn(scope)
	var files []api.File
	for _, text := range append(handedOn(), pickedTexts(5, 300)...) {
		f, _ := parsed(t, text)
		files = append(files, f)
	}
	var all sync.WaitGroup
	for range 4 {
		all.Go(func() {
			for _, f := range slices.Backward(files) {
				place := len(f.Exprs) - 1
				want, wantWrong := modelEval(f, place, names)
				if got, wrong := Eval(f, place, scope); !sameDiag(wrong, wantWrong) || !value.Equal(got, want) {
					t.Errorf("P7: another answer: %s, %v", shown(got), wrong)
					return
				}
			}
		})
	}
	all.Wait()
}
