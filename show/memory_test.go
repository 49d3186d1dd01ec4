package show

import (
	"math/rand"
	"reflect"
	"sync"
	"testing"
	"unsafe"

	"purlin/api"
)

// withRoom answers a copy of a list, with room behind it in which a last one stands.
func withRoom[T any](list []T, last T) []T {
	return append(append(make([]T, 0, len(list)+1), list...), last)[:len(list)]
}

// roomy answers a copy of a file whose lists all have room. In the room stands what can be told from what a file has.
func roomy(f api.File) api.File {
	r := api.File{
		Exprs:  withRoom(f.Exprs, api.Expr{Text: "room"}),
		Blocks: withRoom(f.Blocks, api.Block{Type: "room"}),
		Top:    withRoom(f.Top, -9),
	}
	for i, e := range r.Exprs {
		r.Exprs[i].Args, r.Exprs[i].Keys = withRoom(e.Args, -9), withRoom(e.Keys, "room")
	}
	for i, b := range r.Blocks {
		r.Blocks[i].Labels, r.Blocks[i].Attrs, r.Blocks[i].Blocks = withRoom(b.Labels, "room"), withRoom(b.Attrs, api.Attr{Name: "room"}), withRoom(b.Blocks, -9)
	}
	return r
}

// whole answers a file's lists with the room behind them, the lists within the room left out.
func whole(f api.File) []any {
	all := []any{f.Exprs[:cap(f.Exprs)], f.Blocks[:cap(f.Blocks)], f.Top[:cap(f.Top)]}
	for _, e := range f.Exprs {
		all = append(all, e.Args[:cap(e.Args)], e.Keys[:cap(e.Keys)])
	}
	for _, b := range f.Blocks {
		all = append(all, b.Labels[:cap(b.Labels)], b.Attrs[:cap(b.Attrs)], b.Blocks[:cap(b.Blocks)])
	}
	return all
}

// TestChangesNothing wants what is handed in to stay, spare room included.
func TestChangesNothing(t *testing.T) {
	for _, c := range pickedFiles(4, 300) {
		f := parsed(t, c.text)
		handed, was := roomy(f), roomy(f)
		for i := range handed.Exprs {
			Expr(handed, i)
		}
		if got := File(handed); got != c.shown {
			t.Fatalf("P6.1: %q: %q, with room in its lists", c.text, got)
		}
		if !reflect.DeepEqual(whole(handed), whole(was)) {
			t.Fatalf("P6.3: %q: its file was changed", c.text)
		}
	}
}

// texts answers all texts of a file.
func texts(f api.File) []string {
	var all []string
	for _, e := range f.Exprs {
		all = append(append(all, e.Text), e.Keys...)
	}
	for _, b := range f.Blocks {
		all = append(append(all, b.Type), b.Labels...)
		for _, a := range b.Attrs {
			all = append(all, a.Name)
		}
	}
	return all
}

// share: have these texts a byte of memory in common?
func share(a, b string) bool {
	begin, other := uintptr(unsafe.Pointer(unsafe.StringData(a))), uintptr(unsafe.Pointer(unsafe.StringData(b)))
	return a != "" && b != "" && begin < other+uintptr(len(b)) && other < begin+uintptr(len(a))
}

// TestNewMemory wants texts that stand neither in what is handed in nor in another answer.
func TestNewMemory(t *testing.T) {
	for _, c := range append(pickedFiles(5, 200), part{text: "a {x=abc\ny=123\nz=null\nv=a\nw=\"\"\n}"}) {
		f := parsed(t, c.text)
		answers := []string{File(f), File(f)}
		for i := range f.Exprs {
			answers = append(answers, Expr(f, i), Expr(f, i))
		}
		for i, answer := range answers {
			for _, text := range texts(f) {
				if share(answer, text) {
					t.Fatalf("P6.3: %q: %q stands in the file", c.text, answer)
				}
			}
			if i%2 == 1 && share(answer, answers[i-1]) {
				t.Fatalf("P6.3: %q: %q twice in one place", c.text, answer)
			}
		}
	}
}

// TestNothingKept asks from many sides at once: the answers hang on the arguments alone (R8).
func TestNothingKept(t *testing.T) {
	files := pickedFiles(6, 300)
	var all sync.WaitGroup
	for range 4 {
		all.Go(func() {
			for _, c := range files {
				f := parsed(t, c.text)
				if first, second := File(f), File(f); first != c.shown || second != first {
					t.Errorf("P7: %q: another answer", c.text)
					return
				}
			}
		})
	}
	all.Wait()
}

// TestEnds has files that no text is parsed to: nothing is promised of them but that each call ends, and none panics (P6).
func TestEnds(t *testing.T) {
	round := api.File{Top: []int{0, 0, 7, -1}, Blocks: []api.Block{{Attrs: []api.Attr{{Expr: 0}, {Expr: -1}, {Expr: 9}}, Blocks: []int{0, 0, 3, -3}}}}
	if got := File(round); len(got) > 1<<24 {
		t.Errorf("P6: a block that is within itself: %d bytes", len(got))
	}
	for kind := api.ExprKind(-1); kind <= api.XSplat+1; kind++ {
		for _, args := range [][]int{nil, {0}, {1, 1}, {0, 1, 0}, {-1, 5, 1 << 62}} {
			for _, keys := range [][]string{nil, {"t"}, {"e", "e", "e"}, {"x", "t"}, {"t", "t", "t", "t", "t"}} {
				e := api.Expr{Kind: kind, Text: "\xff$", Args: args, Keys: keys}
				round.Exprs = []api.Expr{e, e}
				Expr(round, 0)
				Expr(round, 1)
			}
		}
	}
	File(round)
}

// TestPickedWrongs has parts that are picked without a thought of what they are made of.
func TestPickedWrongs(t *testing.T) {
	r := rand.New(rand.NewSource(7))
	places := func() []int {
		var all []int
		for range r.Intn(4) {
			all = append(all, r.Intn(6)-1)
		}
		return all
	}
	for range 300 {
		f := api.File{Top: places()}
		for range r.Intn(5) {
			f.Exprs = append(f.Exprs, api.Expr{Kind: api.ExprKind(r.Intn(33) - 1), Args: places(), Keys: []string{"t", "e", "t"}[:r.Intn(4)]})
			f.Blocks = append(f.Blocks, api.Block{Attrs: []api.Attr{{Expr: r.Intn(6) - 1}}, Blocks: places()})
		}
		for place := -1; place <= len(f.Exprs); place++ {
			if got := Expr(f, place); got != "" && (place < 0 || place >= len(f.Exprs)) {
				t.Errorf("P6.1: the expression %d of %d: %q", place, len(f.Exprs), got)
			}
		}
		File(f)
	}
}
