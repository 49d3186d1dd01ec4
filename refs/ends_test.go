package refs

import (
	"math/rand"
	"slices"
	"strings"
	"testing"

	"purlin/api"
)

// TestNoPlace has places that aren't of the file.
func TestNoPlace(t *testing.T) {
	f, last := parsed(t, "[x, [y.z]]")
	for _, place := range []int{-1, last + 1, -1 << 63, 1<<63 - 1} {
		for _, file := range []api.File{f, {}} {
			if got := Of(file, place); len(got) != 0 {
				t.Errorf("P6: the expression %d: %q", place, got)
			}
		}
	}
	if got := Of(api.File{}, 0); len(got) != 0 {
		t.Errorf("P6: of a file without expressions: %q", got)
	}
}

// TestNoFile has files that no text is parsed to: nothing is promised of them but that each call ends, and none panics (P6).
func TestNoFile(t *testing.T) {
	for kind := api.ExprKind(-1); kind <= api.XSplat+1; kind++ {
		for _, args := range [][]int{nil, {0}, {1}, {0, 0}, {0, 1}, {1, 0}, {0, 1, 0}, {1, 1, 1}, {-1, 5, 1 << 62}, {-1 << 63}} {
			for _, text := range []string{"", "x", "\xff.", strings.Repeat("x", 1000)} {
				e := api.Expr{Kind: kind, Text: text, Args: args, Keys: []string{"t"}}
				f := api.File{Exprs: []api.Expr{e, {Kind: api.XName, Text: "x"}, e}}
				for place := range f.Exprs {
					Of(f, place)
				}
			}
		}
	}
}

// TestPickedWrongs has expressions that are picked without a thought of what they are made of.
func TestPickedWrongs(t *testing.T) {
	r := rand.New(rand.NewSource(7))
	kinds := []api.ExprKind{api.XName, api.XAttr, api.XFor, api.XList, api.XAdd, api.XSplat, api.XTemplate, 0, 99}
	for range 500 {
		f := api.File{}
		for range 1 + r.Intn(8) {
			e := api.Expr{Kind: kinds[r.Intn(len(kinds))], Text: []string{"a", "b", "c", ""}[r.Intn(4)]}
			for range r.Intn(4) {
				e.Args = append(e.Args, r.Intn(10)-1)
			}
			f.Exprs = append(f.Exprs, e)
		}
		for place := -1; place <= len(f.Exprs); place++ {
			if got := Of(f, place); !slices.IsSorted(got) || len(slices.Compact(slices.Clone(got))) != len(got) {
				t.Errorf("P7: %+v: %q", f, got)
			}
		}
	}
}

// long answers a name of two letters for each number below 26 * 26.
func long(n int) string { return string([]byte{byte('a' + n/26%26), byte('a' + n%26)}) }

// TestMany has as many references as nearly as can be in a file, and as many expressions.
func TestMany(t *testing.T) {
	var parts, want []string
	for n := range 2000 {
		parts, want = append(parts, "${"+long(n)+"."+long(n/2)+"}"), append(want, long(n)+"."+long(n/2))
	}
	slices.Sort(want)
	f, place := parsed(t, `"`+strings.Join(parts, "")+`"`)
	if got := Of(f, place); !slices.Equal(got, slices.Compact(want)) {
		t.Errorf("P9.1: %d references, want %d", len(got), len(want))
	}
	one := strings.Repeat("!", 20) + "a,"
	check(t, `"`+strings.Repeat("${["+strings.Repeat(one, 180)+"b]}", 4)+`${c}"`, "a b c")
}

// TestLong has expressions that are as long as the tokens of a text allow: one upon the other, side by side, and joined from the left.
func TestLong(t *testing.T) {
	attrs := "a" + strings.Repeat(".b", api.MaxTokens/2-10)
	check(t, attrs, attrs)
	check(t, "f(c)"+strings.Repeat(".b", api.MaxTokens/2-10), "c")
	check(t, "c.d"+strings.Repeat("[*].b", api.MaxTokens/5-10), "c.d")
	check(t, "c"+strings.Repeat("[d.e]", api.MaxTokens/5-10), "c d.e")
	check(t, "a"+strings.Repeat(" + a", api.MaxTokens/2-10), "a")
	check(t, "z"+strings.Repeat(" && y.x", api.MaxTokens/4-10), "y.x z")
}

// TestDeep has as many loops within one another as there may be: each name is hidden in those within, and none outside.
func TestDeep(t *testing.T) {
	begin, end, names, want := "", "", "", "l"
	for level := range api.MaxNest - 1 { // the block is one deep itself
		begin += "[for " + long(level) + " in l : "
		names += " + " + long(level) + ".x"
		end += "]"
		want = long(level) + ".x " + want
	}
	check(t, begin+"l"+names+end, "l")
	check(t, begin+"l"+end+names, strings.Join(sorted(want), " "))
	check(t, strings.Repeat("[for v in v : ", api.MaxNest-1)+"v.v"+end, "v")
	check(t, strings.Repeat("(", api.MaxNest-1)+"v.v"+strings.Repeat(")", api.MaxNest-1)+".w", "v.v.w")
}

func sorted(names string) []string { return slices.Sorted(strings.FieldsSeq(names)) }
