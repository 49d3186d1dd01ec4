package syntax

import (
	"math/rand"
	"slices"
	"strings"
	"sync"
	"testing"
	"unsafe"

	"purlin/api"
)

// span: where something stands in memory, spare room included.
type span struct{ begin, end uintptr }

func spanOf[T any](list []T) span {
	begin := uintptr(unsafe.Pointer(unsafe.SliceData(list)))
	var one T
	return span{begin, begin + uintptr(cap(list))*unsafe.Sizeof(one)}
}

func spanOfText(text string) span {
	begin := uintptr(unsafe.Pointer(unsafe.StringData(text)))
	return span{begin, begin + uintptr(len(text))}
}

// lists answers where the lists of a file stand, those without room left out.
func lists(f api.File) []span {
	all := []span{spanOf(f.Exprs), spanOf(f.Blocks), spanOf(f.Top)}
	for _, e := range f.Exprs {
		all = append(all, spanOf(e.Args), spanOf(e.Keys))
	}
	for _, b := range f.Blocks {
		all = append(all, spanOf(b.Labels), spanOf(b.Attrs), spanOf(b.Blocks))
	}
	return slices.DeleteFunc(all, func(s span) bool { return s.begin == s.end })
}

// texts answers all texts of a file.
func texts(f api.File) []string {
	var all []string
	for _, e := range f.Exprs {
		all = append(append(all, e.Text), e.Keys...)
	}
	for _, b := range f.Blocks {
		all = append(append(all, b.Type), b.Labels...)
		for _, a := range b.Attrs {
			all = append(all, a.Name)
		}
	}
	return all
}

// share: do any two of these have a byte in common?
func share(all []span) bool {
	slices.SortFunc(all, func(a, b span) int { return int(a.begin) - int(b.begin) })
	for i := 1; i < len(all); i++ {
		if all[i].begin < all[i-1].end {
			return true
		}
	}
	return false
}

// TestNewMemory wants answers whose lists share nothing, neither with one another nor with another answer's, and no text that stands in the text handed in.
func TestNewMemory(t *testing.T) {
	r := rand.New(rand.NewSource(5))
	count := 0
	for range 1000 {
		w := write(r, r.Intn(150), 0, 0)
		first, _ := Parse(w.text)
		second, _ := Parse(w.text)
		all := append(lists(first), lists(second)...)
		count = max(count, len(all))
		if share(all) {
			t.Fatalf("P5.2: Parse(%q): lists share memory", w.text)
		}
		whole := spanOfText(w.text)
		for _, text := range texts(first) {
			if s := spanOfText(text); text != "" && s.begin >= whole.begin && s.begin < whole.end {
				t.Fatalf("P5.2: Parse(%q): %q shares memory with it", w.text, text)
			}
		}
	}
	if count < 200 {
		t.Errorf("P5.2: at most %d lists", count)
	}
}

// fill overwrites all that a file's lists have, spare room included.
func fill(f api.File) {
	for _, e := range f.Exprs {
		for i := range e.Args[:cap(e.Args)] {
			e.Args[:cap(e.Args)][i] = -7
		}
		for i := range e.Keys[:cap(e.Keys)] {
			e.Keys[:cap(e.Keys)][i] = "filled"
		}
	}
	for _, b := range f.Blocks {
		for i := range b.Labels[:cap(b.Labels)] {
			b.Labels[:cap(b.Labels)][i] = "filled"
		}
		for i := range b.Attrs[:cap(b.Attrs)] {
			b.Attrs[:cap(b.Attrs)][i] = api.Attr{Name: "filled", Expr: -7}
		}
		for i := range b.Blocks[:cap(b.Blocks)] {
			b.Blocks[:cap(b.Blocks)][i] = -7
		}
	}
	for i := range f.Exprs[:cap(f.Exprs)] {
		f.Exprs[:cap(f.Exprs)][i] = api.Expr{Text: "filled"}
	}
	for i := range f.Blocks[:cap(f.Blocks)] {
		f.Blocks[:cap(f.Blocks)][i] = api.Block{Type: "filled"}
	}
	for i := range f.Top[:cap(f.Top)] {
		f.Top[:cap(f.Top)][i] = -7
	}
}

// TestFilled overwrites an answer: those ahead of it and behind it are as they were.
func TestFilled(t *testing.T) {
	r := rand.New(rand.NewSource(6))
	for range 500 {
		w := write(r, r.Intn(80), 0, 0)
		if w.wrong != nil {
			continue // too deep
		}
		ahead, _ := Parse(w.text)
		filled, _ := Parse(w.text)
		fill(filled)
		behind, _ := Parse(w.text)
		if !same(ahead, w.file) || !same(behind, w.file) {
			t.Fatalf("P5.2: Parse(%q): two answers share memory", w.text)
		}
	}
}

// TestWrongIsNew wants each error in memory of its own.
func TestWrongIsNew(t *testing.T) {
	for _, text := range []string{"~", "=", "a { x = {k = 1, k = 2} }", "a { x = \"${~}\" }", "a { x = " + strings.Repeat("(", 24)} {
		_, first := Parse(text)
		was := *first
		*first = api.Diag{Code: api.ErrRange, File: "x", At: -9}
		if _, second := Parse(text); second == first || *second != was {
			t.Errorf("P5.2: Parse(%.40q): %+v, then %+v", text, was, second)
		}
	}
}

// TestNothingKept asks from many sides at once: the answers hang on the arguments alone (R8).
func TestNothingKept(t *testing.T) {
	var all sync.WaitGroup
	for i := range 4 {
		all.Go(func() {
			r := rand.New(rand.NewSource(int64(10 + i)))
			for range 300 {
				w := write(r, r.Intn(60), r.Intn(2)*10, r.Intn(2)*r.Intn(26))
				got, wrong := Parse(w.text)
				if w.wrong == nil && (wrong != nil || !same(got, w.file)) || w.wrong != nil && (wrong == nil || *wrong != *w.wrong) {
					t.Errorf("P7: Parse(%q): another answer", w.text)
					return
				}
			}
		})
	}
	all.Wait()
}

// TestEnds has parts of texts that come again and again: each call ends, and none panics (P6).
func TestEnds(t *testing.T) {
	for _, part := range []string{"", "a", "a ", "a{", "a{\n", "x=", "0 ", "\n", "\"", "\"\"", "\\", "$", "{", "}", "{}", "{k=", "${", "\"${", "}\"", "${a}", "\"${a}\"", "<<E\n", "E\n", "(", ")", "()", "[", "]", "[]", "[0]", "[*].a", "[for ", "for ", "a.", ".a", "-", "!", "- ", "1+", "a?", "a?b:", ":", ",", "=", "==", "1,", "f(", "f()", "\xff", "\u00e9", "~", "#", "/*"} {
		for _, n := range []int{1, 2, 23, 24, 25, 26, 100, 2000, 4095, 4096, 5000, 20000} {
			for _, head := range []string{"", "a", "a {", "a {\n", "a { x = ", "a { x = (", "a { x = [", "a { x = {", "a { x = \"", "a { x = \"${", "a { x = b"} {
				text := head + strings.Repeat(part, n)
				f, wrong := Parse(text)
				if wrong != nil && (wrong.Code == api.OK || wrong.File != "" || wrong.At < 0 || wrong.At > len(text) || !same(f, api.File{})) {
					t.Errorf("P6: Parse(%q, %d times %q): %+v", head, n, part, wrong)
				}
			}
		}
	}
}

// TestPickedBytes has bytes as they are picked: each call ends, and none panics (P6).
func TestPickedBytes(t *testing.T) {
	const bytes = "ab1 \n\n\"\"\\${{{}}}[[]](())==+-*/<>!?:,..#for\xff\xc3\xa9"
	r := rand.New(rand.NewSource(7))
	for range 40000 {
		text := []byte([]string{"", "a {", "a { x = ", "a { x = \"${"}[r.Intn(4)])
		for range r.Intn(30) {
			text = append(text, bytes[r.Intn(len(bytes))])
		}
		f, wrong := Parse(string(text))
		if wrong != nil && (wrong.Code == api.OK || wrong.File != "" || wrong.At < 0 || wrong.At > len(text) || !same(f, api.File{})) {
			t.Fatalf("P6: Parse(%q): %+v", text, wrong)
		}
	}
}
