package lex

import (
	"math/rand"
	"slices"
	"strings"
	"sync"
	"testing"
	"unsafe"

	"purlin/api"
)

// span answers where a text's bytes stand.
func span(text string) (uintptr, uintptr) {
	begin := uintptr(unsafe.Pointer(unsafe.StringData(text)))
	return begin, begin + uintptr(len(text))
}

// sharesBytes tells whether a token's Text stands within a text's memory.
func sharesBytes(tokens []api.Token, text string) bool {
	begin, end := span(text)
	return slices.ContainsFunc(tokens, func(token api.Token) bool {
		at, _ := span(token.Text)
		return token.Text != "" && at >= begin && at < end
	})
}

// TestNewMemory wants answers that share no list, no room within a list, and no bytes with the text.
func TestNewMemory(t *testing.T) {
	r := rand.New(rand.NewSource(4))
	for range 2000 {
		want, text := pickTokens(r)
		first, _ := Scan(text)
		second, _ := Scan(text)
		all := first[:cap(first)]
		for i := range all {
			all[i] = api.Token{Kind: 9, Text: "filled", At: -1}
		}
		third, _ := Scan(text)
		if !slices.Equal(second, want) || !slices.Equal(third, want) {
			t.Fatalf("P4.3: %q: two answers share memory", text)
		}
		if sharesBytes(third, text) {
			t.Fatalf("P4.3: %q: the answer shares memory with it", text)
		}
	}
}

// TestWrongIsNew wants each error in memory of its own.
func TestWrongIsNew(t *testing.T) {
	for _, text := range []string{"a &", "\xff", strings.Repeat("a", 33), strings.Repeat(" ", api.MaxText+1)} {
		_, first := Scan(text)
		was := *first
		*first = api.Diag{Code: api.ErrTwice, File: "x", At: 9}
		if _, second := Scan(text); second == first || *second != was {
			t.Errorf("P4.3: Scan(%.40q): %+v, then %+v", text, was, second)
		}
	}
}

// TestNothingKept asks from many sides at once: the answers hang on the arguments alone (R8).
func TestNothingKept(t *testing.T) {
	var all sync.WaitGroup
	for range 4 {
		all.Go(func() {
			r := rand.New(rand.NewSource(5))
			for range 500 {
				want, text := pickTokens(r)
				got, wrong := Scan(text)
				_, cut := Scan(text + " 1x")
				if wrong != nil || !slices.Equal(got, want) || cut == nil || *cut != (api.Diag{Code: api.ErrLex, At: len(text) + 1}) {
					t.Errorf("P7: %q: another answer", text)
					return
				}
			}
		})
	}
	all.Wait()
}

// TestEnds has parts of tokens that come again and again: each call ends, and none panics (P6).
func TestEnds(t *testing.T) {
	for _, part := range []string{"", "a", "0", "1", " ", "\n", "\"", "\\", "$", "{", "}", "${", "${\"", "\"${", "${}", "\"\"", "<", "<<", "<<E", "<<E\n", "\nE", "E\n", "\n\n", "/", "*", "/*", "*/", "/**/", "//", "#", "&", "|", "=", "!", "\x00", "\xff", "\xe2\x82", "\u00e9", "\ufffd"} {
		for _, n := range []int{1, 2, 23, 24, 25, 26, 4096, 4097, 8191, 16384, 16385, 100000} {
			for _, head := range []string{"", "\"", "\"${", "<<E\n", "/*", "#", "a", "1"} {
				text := head + strings.Repeat(part, n)
				tokens, wrong := Scan(text)
				if wrong == nil && (len(tokens) == 0 || tokens[len(tokens)-1] != (api.Token{At: len(text)})) || wrong != nil && (wrong.At < 0 || wrong.At >= len(text) || tokens != nil) {
					t.Errorf("P6: Scan(%q, %d times %q): %s, %+v", head, n, part, brief(tokens), wrong)
				}
			}
		}
	}
}
