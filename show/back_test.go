package show

import (
	"slices"
	"strings"
	"testing"

	"purlin/api"
	"purlin/syntax"
)

// sameExpr: are these expressions the same, but for At and places?
func sameExpr(f api.File, i int, g api.File, j int) bool {
	a, b := f.Exprs[i], g.Exprs[j]
	if a.Kind != b.Kind || a.Text != b.Text || !slices.Equal(a.Keys, b.Keys) || len(a.Args) != len(b.Args) {
		return false
	}
	for n := range a.Args {
		if !sameExpr(f, a.Args[n], g, b.Args[n]) {
			return false
		}
	}
	return true
}

// sameBlocks: are the blocks at these places the same, but for At and places, and but for attributes standing ahead of blocks?
func sameBlocks(f api.File, places []int, g api.File, others []int) bool {
	if len(places) != len(others) {
		return false
	}
	for n := range places {
		a, b := f.Blocks[places[n]], g.Blocks[others[n]]
		if a.Type != b.Type || !slices.Equal(a.Labels, b.Labels) || len(a.Attrs) != len(b.Attrs) || !sameBlocks(f, a.Blocks, g, b.Blocks) {
			return false
		}
		for m := range a.Attrs {
			if a.Attrs[m].Name != b.Attrs[m].Name || !sameExpr(f, a.Attrs[m].Expr, g, b.Attrs[m].Expr) {
				return false
			}
		}
	}
	return true
}

// checkBack parses a file's text, and wants the same file of it, and of that the same text. It answers with what the text is refused, if it is.
func checkBack(t *testing.T, f api.File) api.Errno {
	t.Helper()
	text := File(f)
	g, wrong := syntax.Parse(text)
	if wrong != nil {
		return wrong.Code
	}
	if again := File(g); again != text {
		t.Errorf("P6.2: %.300q is shown as %.300q", text, again)
	}
	if len(f.Exprs) != len(g.Exprs) || len(f.Blocks) != len(g.Blocks) || !sameBlocks(f, f.Top, g, g.Top) {
		t.Errorf("P6.2: %.300q: %+v, from %+v", text, g, f)
	}
	return api.OK
}

// TestPickedBack has files as they are picked: each comes back, unless its text is too deep or too long.
func TestPickedBack(t *testing.T) {
	codes := map[api.Errno]int{}
	for _, c := range pickedFiles(2, 3000) {
		code := checkBack(t, parsed(t, c.text))
		if code != api.OK && code != api.ErrDeep && code != api.ErrLong {
			t.Errorf("P6.2: %.300q: %.300q is refused with %d", c.text, c.shown, code)
		}
		codes[code]++
	}
	if codes[api.OK] < 2000 || codes[api.ErrDeep] == 0 {
		t.Errorf("the picked files tell too little: %v", codes)
	}
}

// deep: an expression of so many parts, and how it is shown.
type deep func(n int) (text, shown string)

// TestTooDeep has what gets brackets in the text that is shown: at the greatest depth it comes back, one more is shown, too, but refused.
func TestTooDeep(t *testing.T) {
	for name, c := range map[string]deep{
		"joined": func(n int) (string, string) {
			return "a" + strings.Repeat("+a", n), strings.Repeat("(", n) + "a" + strings.Repeat(" + a)", n)
		},
		"attributes": func(n int) (string, string) {
			return "a" + strings.Repeat(".b", n), strings.Repeat("(", n) + "a" + strings.Repeat(").b", n)
		},
		"indices": func(n int) (string, string) {
			return "a" + strings.Repeat("[0]", n), strings.Repeat("(", n) + "a" + strings.Repeat(")[0]", n)
		},
		"splats": func(n int) (string, string) {
			return "a" + strings.Repeat("[*].b", n), strings.Repeat("(", n) + "a" + strings.Repeat(")[*].b", n)
		},
	} {
		for _, n := range []int{api.MaxNest - 2, api.MaxNest - 1, api.MaxNest, 500} {
			text, shown := c(n)
			want := api.OK
			if n >= api.MaxNest { // the block is one deep itself
				want = api.ErrDeep
			}
			f := parsed(t, "a {x="+text+"}")
			if got := File(f); got != "a {\n  x = "+shown+"\n}\n" {
				t.Errorf("P6.1: %d %s: %.300q", n, name, got)
			}
			if code := checkBack(t, f); code != want {
				t.Errorf("P6.2: %d %s: refused with %d, want %d", n, name, code, want)
			}
		}
	}
}

// TestTooLong has a text that is shown with as many bytes as one may have, and with one more.
func TestTooLong(t *testing.T) {
	head, tail := "a {\n  x = \"", "\"\n}\n"
	for more, want := range []api.Errno{api.OK, api.ErrLong} {
		said := strings.Repeat("b", api.MaxText-len(head)-len(tail)+more)
		f := parsed(t, "a{x=\""+said+"\"}")
		if got := File(f); got != head+said+tail {
			t.Errorf("P6.1: a text of %d bytes: %d", len(head+said+tail), len(got))
		}
		if code := checkBack(t, f); code != want {
			t.Errorf("P6.2: a text of %d bytes: refused with %d, want %d", len(head+said+tail), code, want)
		}
	}
}

// TestNestedBlocks has as many blocks in one another as there may be.
func TestNestedBlocks(t *testing.T) {
	begin, end := "", ""
	for level := range api.MaxNest {
		blanks := strings.Repeat("  ", level)
		begin, end = begin+blanks+"a {\n"+blanks+"  x = 1\n", blanks+"}\n"+end
	}
	checkFile(t, strings.Repeat("a {\nx=1\n", api.MaxNest)+strings.Repeat("}\n", api.MaxNest), begin+end)
}

// TestMany has as many expressions, and as many blocks, as nearly as can be in a file.
func TestMany(t *testing.T) {
	one, oneShown := strings.Repeat("!", 21)+"a,", strings.Repeat("(!", 21)+"a"+strings.Repeat(")", 21)+", "
	part, partShown := "${["+strings.Repeat(one, 175)+"b]}", "${["+strings.Repeat(oneShown, 175)+"b]}"
	f := parsed(t, "a {x=\""+strings.Repeat(part, 4)+"\"}")
	if len(f.Exprs) < 15000 {
		t.Errorf("%d expressions", len(f.Exprs))
	}
	if got, want := File(f), "a {\n  x = \""+strings.Repeat(partShown, 4)+"\"\n}\n"; got != want {
		t.Errorf("P6.1: %d expressions: %d bytes, want %d", len(f.Exprs), len(got), len(want))
	}
	if got, want := Expr(f, len(f.Exprs)-1), `"`+strings.Repeat(partShown, 4)+`"`; got != want {
		t.Errorf("P6.1: one of %d expressions: %d bytes, want %d", len(f.Exprs), len(got), len(want))
	}
	g := parsed(t, strings.Repeat("a {}\n", 1000))
	if got := File(g); got != strings.Repeat("a {\n}\n", 1000) {
		t.Errorf("P6.1: 1000 blocks: %.300q", got)
	}
}
