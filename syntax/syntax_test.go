package syntax

import (
	"fmt"
	"reflect"
	"strings"
	"testing"

	"purlin/api"
)

// kindNames has the kinds' names, in the order of their numbers.
var kindNames = strings.Fields("? null true false int text template list object name attr index call neg not add sub mul div mod eq ne lt gt le ge and or cond for splat")

// show answers all that an expression has: its kind's name, its Text, its Args, its Keys, its At.
func show(e api.Expr, from int) string {
	shown := kindNames[e.Kind]
	if e.Text != "" || e.Kind == api.XText {
		shown += fmt.Sprintf(":%q", e.Text)
	}
	for _, arg := range e.Args {
		shown += fmt.Sprintf(",%d", arg)
	}
	if len(e.Keys) > 0 {
		shown += fmt.Sprintf("%q", e.Keys)
	}
	return shown + fmt.Sprintf("@%d", e.At-from)
}

// shows answers expressions, as they are told, from a byte on.
func shows(f api.File, from int) string {
	var shown []string
	for _, e := range f.Exprs {
		shown = append(shown, show(e, from))
	}
	return strings.Join(shown, " ")
}

// same: are these the same files? Lists that are empty are like ones that are nil.
func same(a, b api.File) bool { return reflect.DeepEqual(plain(a), plain(b)) }

// plain answers a file whose empty lists are all nil.
func plain(f api.File) api.File {
	var p api.File
	for _, e := range f.Exprs {
		e.Args, e.Keys = append([]int(nil), e.Args...), append([]string(nil), e.Keys...)
		p.Exprs = append(p.Exprs, e)
	}
	for _, b := range f.Blocks {
		b.Labels, b.Attrs, b.Blocks = append([]string(nil), b.Labels...), append([]api.Attr(nil), b.Attrs...), append([]int(nil), b.Blocks...)
		p.Blocks = append(p.Blocks, b)
	}
	p.Top = append(p.Top, f.Top...)
	return p
}

// checkFile wants a text's file.
func checkFile(t *testing.T, text string, want api.File) {
	t.Helper()
	if got, wrong := Parse(text); wrong != nil || !same(got, want) {
		t.Errorf("P5.1: Parse(%.200q): %+v, %+v, want %+v", text, got, wrong, want)
	}
}

// checkExpr wants the expressions of an attribute's text, the last of which is the attribute's: At told in that text.
func checkExpr(t *testing.T, text string, want string) {
	t.Helper()
	const head = "a {x = "
	f, wrong := Parse(head + text + "\n}")
	if got := shows(f, len(head)); wrong != nil || got != want {
		t.Errorf("P5.1: %.200q: %s, %+v, want %s", text, got, wrong, want)
		return
	}
	if f.Blocks[0].Attrs[0] != (api.Attr{Name: "x", Expr: len(f.Exprs) - 1, At: 3}) {
		t.Errorf("P5.1: %.200q: %+v", text, f.Blocks)
	}
}

// checkWrong wants a text's error, without a file's path, and nothing beside it (R3).
func checkWrong(t *testing.T, text string, code api.Errno, at int) {
	t.Helper()
	got, wrong := Parse(text)
	if wrong == nil || *wrong != (api.Diag{Code: code, At: at}) {
		t.Errorf("P5.1: Parse(%.200q): %.300s, %+v, want %d at %d", text, fmt.Sprint(got), wrong, code, at)
	}
	if wrong != nil && !reflect.DeepEqual(got, api.File{}) {
		t.Errorf("P7: Parse(%.200q): %+v beside an error", text, got)
	}
}

// checkMarked wants an error at the mark (a byte of the number 1) of a text, which is taken out of it.
func checkMarked(t *testing.T, marked string, code api.Errno) {
	t.Helper()
	head, tail, _ := strings.Cut(marked, "\x01")
	checkWrong(t, head+tail, code, len(head))
}

func TestExamples(t *testing.T) {
	checkFile(t, `r "t" "n" { x = 1 + y.z }`, api.File{
		Exprs: []api.Expr{
			{Kind: api.XInt, Text: "1", At: 16},
			{Kind: api.XName, Text: "y", At: 20},
			{Kind: api.XAttr, Text: "z", Args: []int{1}, At: 21},
			{Kind: api.XAdd, Args: []int{0, 2}, At: 18},
		},
		Blocks: []api.Block{{Type: "r", Labels: []string{"t", "n"}, Attrs: []api.Attr{{Name: "x", Expr: 3, At: 12}}}},
		Top:    []int{0},
	})
	checkFile(t, `a { x = "p${q}" }`, api.File{
		Exprs: []api.Expr{
			{Kind: api.XText, Text: "p", At: 9},
			{Kind: api.XName, Text: "q", At: 12},
			{Kind: api.XTemplate, Args: []int{0, 1}, Keys: []string{"t", "e"}, At: 8},
		},
		Blocks: []api.Block{{Type: "a", Attrs: []api.Attr{{Name: "x", Expr: 2, At: 4}}}},
		Top:    []int{0},
	})
	checkFile(t, "a { x = [1,\n2] }", api.File{
		Exprs: []api.Expr{
			{Kind: api.XInt, Text: "1", At: 9},
			{Kind: api.XInt, Text: "2", At: 12},
			{Kind: api.XList, Args: []int{0, 1}, At: 8},
		},
		Blocks: []api.Block{{Type: "a", Attrs: []api.Attr{{Name: "x", Expr: 2, At: 4}}}},
		Top:    []int{0},
	})
	checkWrong(t, "a { x = 1 y = 2 }", api.ErrSyntax, 10)
	checkWrong(t, "a { x = (1 }", api.ErrSyntax, 11)
	checkWrong(t, "x = 1", api.ErrSyntax, 2)
}
