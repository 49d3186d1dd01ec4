package refs

import (
	"reflect"
	"slices"
	"sync"
	"testing"
	"unsafe"

	"purlin/api"
)

// withRoom answers a copy of a list, with room behind it in which a last one stands.
func withRoom[T any](list []T, last T) []T {
	return append(append(make([]T, 0, len(list)+1), list...), last)[:len(list)]
}

// roomy answers a copy of a file whose lists all have room. In the room stands what can be told from what a file has.
func roomy(f api.File) api.File {
	r := api.File{
		Exprs:  withRoom(f.Exprs, api.Expr{Kind: api.XName, Text: "room"}),
		Blocks: withRoom(f.Blocks, api.Block{Type: "room"}),
		Top:    withRoom(f.Top, -9),
	}
	for i, e := range r.Exprs {
		r.Exprs[i].Args, r.Exprs[i].Keys = withRoom(e.Args, -9), withRoom(e.Keys, "room")
	}
	for i, b := range r.Blocks {
		r.Blocks[i].Labels, r.Blocks[i].Attrs, r.Blocks[i].Blocks = withRoom(b.Labels, "room"), withRoom(b.Attrs, api.Attr{Name: "room"}), withRoom(b.Blocks, -9)
	}
	return r
}

// whole answers a file's lists with the room behind them, the lists within the room left out.
func whole(f api.File) []any {
	all := []any{f.Exprs[:cap(f.Exprs)], f.Blocks[:cap(f.Blocks)], f.Top[:cap(f.Top)]}
	for _, e := range f.Exprs {
		all = append(all, e.Args[:cap(e.Args)], e.Keys[:cap(e.Keys)])
	}
	for _, b := range f.Blocks {
		all = append(all, b.Labels[:cap(b.Labels)], b.Attrs[:cap(b.Attrs)], b.Blocks[:cap(b.Blocks)])
	}
	return all
}

// TestFileStays wants what is handed in to stay, spare room included.
func TestFileStays(t *testing.T) {
	for _, c := range pickedParts(4, 500) {
		f, place := parsed(t, c.text)
		handed, was := roomy(f), roomy(f)
		for i := range handed.Exprs {
			answer := Of(handed, i)
			clear(answer[:cap(answer)])
		}
		if got := Of(handed, place); !slices.Equal(got, c.refs) {
			t.Fatalf("P9.1: %s: %q, with room in its lists", c.text, got)
		}
		if !reflect.DeepEqual(whole(handed), whole(was)) {
			t.Fatalf("P9.3: %s: its file was changed", c.text)
		}
	}
}

// texts answers all texts of a file.
func texts(f api.File) []string {
	var all []string
	for _, e := range f.Exprs {
		all = append(append(all, e.Text), e.Keys...)
	}
	for _, b := range f.Blocks {
		all = append(append(all, b.Type), b.Labels...)
		for _, a := range b.Attrs {
			all = append(all, a.Name)
		}
	}
	return all
}

// share: have these texts a byte of memory in common?
func share(a, b string) bool {
	begin, other := uintptr(unsafe.Pointer(unsafe.StringData(a))), uintptr(unsafe.Pointer(unsafe.StringData(b)))
	return a != "" && b != "" && begin < other+uintptr(len(b)) && other < begin+uintptr(len(a))
}

// TestNewMemory wants lists and texts that stand neither in what is handed in nor in another answer, nor a text twice in one.
func TestNewMemory(t *testing.T) {
	for _, c := range append(pickedParts(5, 300), part{text: "xyz"}, part{text: "[xyz, abc.def, abc, abc.def]"}) {
		f, place := parsed(t, c.text)
		one, two := Of(f, place), Of(f, place)
		if cap(one) > 0 && unsafe.SliceData(one) == unsafe.SliceData(two) {
			t.Fatalf("P9.3: %s: one list twice", c.text)
		}
		room := append(slices.Clone(one[:cap(one)]), two[:cap(two)]...)
		for i, text := range room {
			if slices.ContainsFunc(texts(f), func(given string) bool { return share(text, given) }) {
				t.Fatalf("P9.3: %s: %q stands in the file", c.text, text)
			}
			if slices.ContainsFunc(room[:i], func(ahead string) bool { return share(text, ahead) }) {
				t.Fatalf("P9.3: %s: %q twice in one place", c.text, text)
			}
		}
	}
}

// TestNothingKept asks from many sides at once: the answers hang on the arguments alone (R8).
func TestNothingKept(t *testing.T) {
	parts := pickedParts(6, 500)
	var all sync.WaitGroup
	for range 4 {
		all.Go(func() {
			for _, c := range parts {
				f, place := parsed(t, c.text)
				if one, two := Of(f, place), Of(f, place); !slices.Equal(one, c.refs) || !slices.Equal(two, c.refs) {
					t.Errorf("P7: %s: another answer", c.text)
					return
				}
			}
		})
	}
	all.Wait()
}
