package syntax

import (
	"math/rand"
	"slices"
	"strings"
	"testing"

	"purlin/api"
	"purlin/lex"
)

// writer writes a file as it is picked by the grammar, and notes what Parse is to answer of it: the file, or what it has made wrong first.
type writer struct {
	r     *rand.Rand
	text  string
	file  api.File
	wrong *api.Diag
	over  bool // lines are passed over
	line  bool // a line has to come next: a heredoc is ahead
	depth int
	nest  int // insertions, and braces within them: Scan counts these
	left  int // how much may still be picked that makes it longer
	bad   int // one in so many may be wrong; none, of 0
}

// one: is it one of so many that is picked? Not, where it is long enough.
func (w *writer) one(of int) bool {
	if w.left <= 0 || w.r.Intn(of) > 0 {
		return false
	}
	w.left--
	return true
}

func (w *writer) pick(of ...string) string { return of[w.r.Intn(len(of))] }

// token writes one, behind what may stand between two, and answers where it begins.
func (w *writer) token(text string) int {
	blanks := []string{" ", " ", "  ", "\t", " /* r */ ", "\r"}
	if w.over && w.nest == 0 {
		blanks = append(blanks, "\n", " \n\n", " # r (\n ", " // }\n")
	}
	if strings.Contains("[](),.:?{}\n", text) {
		blanks = append(blanks, "", "", "")
	}
	if w.line {
		blanks = []string{"\n", "\n \n "}
		w.line = false
	}
	w.text += w.pick(blanks...)
	w.text += text
	return len(w.text) - len(text)
}

// fault notes what is wrong, if nothing was ahead of it.
func (w *writer) fault(code api.Errno, at int) {
	if w.wrong == nil {
		w.wrong = &api.Diag{Code: code, At: at}
	}
}

func (w *writer) add(e api.Expr) int {
	w.file.Exprs = append(w.file.Exprs, e)
	return len(w.file.Exprs) - 1
}

func (w *writer) deeper(at int, write func()) {
	if w.depth >= api.MaxNest {
		w.fault(api.ErrDeep, at)
	}
	w.depth++
	write()
	w.depth--
}

// within writes what stands within brackets, and answers where they begin.
func (w *writer) within(open, shut string, write func()) int {
	at := w.token(open)
	over, nest := w.over, w.nest
	w.over = open != "{"
	if w.nest > 0 && open == "{" {
		w.nest++
	}
	w.deeper(at, write)
	w.token(shut)
	w.over, w.nest = over, nest
	return at
}

// lines writes so many or more.
func (w *writer) lines(least int) {
	for range least + w.r.Intn(2)*w.r.Intn(3) {
		w.token("\n")
	}
}

func (w *writer) name() string {
	return w.pick("a", "b", "x-1", "in", "for", "null", "true", "_", "forx")
}

func (w *writer) whole() {
	w.lines(0)
	for first := true; first || w.one(2); first = false {
		if !first {
			w.lines(1)
		}
		w.file.Top = append(w.file.Top, w.block())
	}
	w.lines(0)
	w.text += w.pick("", " ", "# r", " /* r\n */")
}

func (w *writer) block() int {
	b := api.Block{Type: w.name()}
	b.At = w.token(b.Type)
	for w.one(3) {
		text, said := w.piece()
		w.token(`"` + text + `"`)
		b.Labels = append(b.Labels, said)
	}
	w.within("{", "}", func() {
		w.lines(0)
		for first := true; first && w.r.Intn(5) > 0 || w.one(2); first = false {
			if !first {
				w.lines(1)
			}
			if w.one(6) {
				b.Blocks = append(b.Blocks, w.block())
			} else {
				b.Attrs = append(b.Attrs, w.attr())
			}
		}
		w.lines(0)
	})
	w.file.Blocks = append(w.file.Blocks, b)
	return len(w.file.Blocks) - 1
}

func (w *writer) attr() api.Attr {
	a := api.Attr{Name: w.name()}
	a.At = w.token(a.Name)
	w.token("=")
	a.Expr = w.expr()
	return a
}

func (w *writer) expr() int {
	first := w.joined(0)
	if !w.one(9) {
		return first
	}
	e := api.Expr{Kind: api.XCond, At: w.token("?")}
	w.deeper(e.At, func() {
		second := w.expr()
		w.token(":")
		e.Args = []int{first, second, w.expr()}
	})
	return w.add(e)
}

func (w *writer) joined(level int) int {
	if level == len(signLevels) {
		return w.signed()
	}
	left := w.joined(level + 1)
	for w.one(14) {
		sign := signLevels[level][w.r.Intn(len(signLevels[level]))]
		at := w.token(sign[0])
		right := w.joined(level + 1)
		left = w.add(api.Expr{Kind: api.ExprKind(slices.Index(kindNames, sign[1])), Args: []int{left, right}, At: at})
	}
	return left
}

func (w *writer) signed() int {
	if !w.one(9) {
		return w.posted()
	}
	e := api.Expr{Kind: api.XNeg}
	if w.r.Intn(2) == 0 {
		e.Kind, e.At = api.XNot, w.token("!")
	} else {
		e.At = w.token("-")
	}
	w.deeper(e.At, func() { e.Args = []int{w.signed()} })
	return w.add(e)
}

func (w *writer) posted() int {
	one := w.atom()
	for w.one(5) {
		e := api.Expr{Args: []int{one}}
		switch w.r.Intn(3) {
		case 0:
			e.Kind, e.At, e.Text = api.XAttr, w.token("."), w.name()
			w.token(e.Text)
		case 1:
			e.Kind = api.XIndex
			e.At = w.within("[", "]", func() { e.Args = append(e.Args, w.expr()) })
		case 2:
			e.Kind, e.Text = api.XSplat, w.name()
			e.At = w.within("[", "]", func() { w.token("*") })
			w.token(".")
			w.token(e.Text)
		}
		one = w.add(e)
	}
	return one
}

func (w *writer) atom() int {
	if !w.one(2) {
		return w.small()
	}
	e := api.Expr{}
	switch w.r.Intn(7) {
	case 0:
		one := 0
		w.within("(", ")", func() { one = w.expr() })
		return one
	case 1:
		e.Kind, e.Text = api.XCall, w.pick("f", "null", "true", "in")
		e.At = w.token(e.Text)
		w.within("(", ")", func() { e.Args = w.args() })
	case 2:
		e.Kind = api.XList
		e.At = w.within("[", "]", func() { e.Args = w.args() })
	case 3:
		e.Kind, e.Text = api.XFor, w.name()
		e.At = w.within("[", "]", func() {
			w.token("for")
			w.token(e.Text)
			w.token("in")
			e.Args = append(e.Args, w.expr())
			w.token(":")
			e.Args = append(e.Args, w.expr())
		})
	case 4:
		if w.nest < api.MaxNest {
			return w.object()
		}
		return w.small()
	default:
		if w.nest < api.MaxNest {
			return w.template()
		}
		return w.small()
	}
	return w.add(e)
}

// small writes an expression of one token.
func (w *writer) small() int {
	e := api.Expr{}
	switch w.r.Intn(6) {
	case 0:
		e.Kind, e.Text = api.XInt, w.pick("0", "1", "12", "907", strings.Repeat("9", 100))
		e.At = w.token(e.Text)
	case 1:
		text, said := w.piece()
		e = api.Expr{Kind: api.XText, Text: said, At: w.token(`"` + text + `"`)}
	case 2:
		i := w.r.Intn(3)
		e = api.Expr{Kind: []api.ExprKind{api.XNull, api.XTrue, api.XFalse}[i], At: w.token([]string{"null", "true", "false"}[i])}
	case 3:
		if w.over && w.nest == 0 {
			e = api.Expr{Kind: api.XText, Text: "a\n\"${\\b}$\n", At: w.token("<<E\na\n\"${\\b}$\n\tE")}
			w.line = true
			break
		}
		fallthrough
	default:
		e.Kind, e.Text = api.XName, w.pick("a", "b", "x-1", "in", "nulls", "fo", "For")
		e.At = w.token(e.Text)
	}
	return w.add(e)
}

func (w *writer) args() []int {
	var args []int
	for first := true; first && w.r.Intn(4) > 0 || w.one(2); first = false {
		if len(args) > 0 {
			w.token(",")
		}
		args = append(args, w.expr())
	}
	if len(args) > 0 && w.r.Intn(4) == 0 {
		w.token(",")
	}
	return args
}

func (w *writer) object() int {
	e := api.Expr{Kind: api.XObject}
	lines := func(least int) {
		if w.nest == 0 {
			w.lines(least)
		}
	}
	e.At = w.within("{", "}", func() {
		lines(0)
		for first := true; first && w.r.Intn(4) > 0 || w.one(2); first = false {
			if len(e.Keys) > 0 {
				if w.nest > 0 || w.r.Intn(2) == 0 {
					w.token(",")
					lines(0)
				} else {
					lines(1)
				}
			}
			e.Keys = append(e.Keys, w.key(e.Keys))
			w.token("=")
			e.Args = append(e.Args, w.expr())
		}
		if len(e.Keys) > 0 && w.r.Intn(4) == 0 {
			w.token(",")
		}
		lines(0)
	})
	return w.add(e)
}

// key writes one that isn't there yet, or, where it may be wrong, one that is.
func (w *writer) key(there []string) string {
	for {
		key, text := w.name(), ""
		text = key
		if w.r.Intn(2) == 0 {
			text, key = w.piece()
			text = `"` + text + `"`
		}
		if !slices.Contains(there, key) {
			w.token(text)
			return key
		}
		if w.bad > 0 && w.r.Intn(w.bad) == 0 {
			w.fault(api.ErrTwice, w.token(text))
			return key
		}
	}
}

// piece picks what may stand between quotes, and what that says.
func (w *writer) piece() (string, string) {
	text, said := "", ""
	for range 1 + w.r.Intn(4) {
		i := w.r.Intn(12)
		text += []string{"a", "b c", `\n`, `\t`, `\r`, `\"`, `\\`, `\$`, "$ ", "{", "}", "\u00e9"}[i]
		said += []string{"a", "b c", "\n", "\t", "\r", `"`, `\`, "$", "$ ", "{", "}", "\u00e9"}[i]
	}
	return text, said
}

func (w *writer) template() int {
	e := api.Expr{Kind: api.XTemplate, At: w.token(`"`)}
	for done := false; !done || w.one(3); {
		if w.r.Intn(2) == 0 && (len(e.Keys) == 0 || e.Keys[len(e.Keys)-1] == "e") {
			text, said := w.piece()
			w.text += text
			e.Keys = append(e.Keys, "t")
			e.Args = append(e.Args, w.add(api.Expr{Kind: api.XText, Text: said, At: len(w.text) - len(text)}))
			continue
		}
		done = true
		e.Keys = append(e.Keys, "e")
		e.Args = append(e.Args, w.inserted())
	}
	w.text += `"`
	return w.add(e)
}

func (w *writer) inserted() int {
	at, one := len(w.text), 0
	w.text += "${"
	w.nest++
	w.deeper(at, func() {
		if w.bad > 0 && w.r.Intn(w.bad) == 0 {
			w.wrongInserted()
			return
		}
		one = w.expr()
	})
	w.nest--
	w.text += w.pick("", " ", "// r", " # r") + "}"
	return one
}

// wrongInserted writes what no insertion may have.
func (w *writer) wrongInserted() {
	pick := w.r.Intn(4)
	if w.nest == api.MaxNest {
		pick %= 3 // no brace more
	}
	switch pick {
	case 0:
		w.fault(api.ErrLex, w.token("~"))
	case 1:
		w.fault(api.ErrSyntax, w.token(")"))
	case 2:
		w.expr()
		w.fault(api.ErrSyntax, w.token("b"))
	case 3:
		at := w.token("{ k = 1, k = 2 }")
		w.deeper(at, func() { w.fault(api.ErrTwice, at+9) })
	}
}

// write answers what was picked: around it is so much of what is one deeper each.
func write(r *rand.Rand, left, bad, around int) *writer {
	w := &writer{r: r, left: left, bad: bad}
	if around == 0 {
		w.whole()
		return w
	}
	b := api.Block{Type: "a", At: w.token("a")}
	w.within("{", "}", func() {
		b.Attrs = []api.Attr{{Name: "x", At: w.token("x")}}
		w.token("=")
		b.Attrs[0].Expr = w.around(around)
	})
	w.file.Blocks, w.file.Top = []api.Block{b}, []int{0}
	return w
}

// checkPicked holds Parse to what the writer noted, and answers the error.
func checkPicked(t *testing.T, w *writer) api.Errno {
	t.Helper()
	got, wrong := Parse(w.text)
	if w.wrong == nil && (wrong != nil || !same(got, w.file)) {
		t.Fatalf("P5.1: Parse(%q): %+v, %+v, want %+v", w.text, got, wrong, w.file)
	}
	if w.wrong == nil {
		return api.OK
	}
	if wrong == nil || *wrong != *w.wrong || !same(got, api.File{}) {
		t.Fatalf("P5.1: Parse(%q): %+v, %+v, want %+v", w.text, got, wrong, w.wrong)
	}
	return wrong.Code
}

// around writes an expression in so many others.
func (w *writer) around(n int) int {
	if n == 0 {
		return w.expr()
	}
	e := api.Expr{}
	inner := func() { e.Args = append(e.Args, w.around(n-1)) }
	switch w.r.Intn(6) {
	case 0:
		w.within("(", ")", inner)
		return e.Args[0]
	case 1:
		e.Kind = api.XList
		e.At = w.within("[", "]", inner)
	case 2:
		e.Kind, e.At = api.XNeg, w.token("-")
		w.deeper(e.At, func() { w.within("(", ")", inner) })
	case 3:
		e.Args = []int{w.small()}
		e.Kind = api.XIndex
		e.At = w.within("[", "]", inner)
	case 4:
		e.Args = []int{w.small()}
		e.Kind, e.At = api.XCond, w.token("?")
		w.deeper(e.At, func() {
			e.Args = append(e.Args, w.small())
			w.token(":")
			inner()
		})
	case 5:
		if w.nest == api.MaxNest {
			return w.around(n - 1)
		}
		e.Kind, e.Keys, e.At = api.XTemplate, []string{"e"}, w.token(`"`)
		at := len(w.text)
		w.text += "${"
		w.nest++
		w.deeper(at, inner)
		w.nest--
		w.text += `}"`
	}
	return w.add(e)
}

// TestPickedFiles has files with nothing wrong: just these are parsed.
func TestPickedFiles(t *testing.T) {
	r := rand.New(rand.NewSource(2))
	most, longest := 0, 0
	for range 2000 {
		w := write(r, r.Intn(150), 0, 0)
		if code := checkPicked(t, w); code == api.OK {
			most, longest = max(most, len(w.file.Exprs)), max(longest, len(w.text))
		}
	}
	if most < 100 || longest < 1000 {
		t.Errorf("picked files: at most %d expressions, %d bytes", most, longest)
	}
}

// TestPickedWrongs has files with keys that come twice, insertions that are wrong, and all that is too deep.
func TestPickedWrongs(t *testing.T) {
	r := rand.New(rand.NewSource(3))
	seen := map[api.Errno]int{}
	for range 3000 {
		seen[checkPicked(t, write(r, r.Intn(120), 1+r.Intn(20), r.Intn(2)*r.Intn(30)))]++
	}
	for _, code := range []api.Errno{api.OK, api.ErrSyntax, api.ErrTwice, api.ErrLex, api.ErrDeep} {
		if seen[code] < 100 {
			t.Errorf("picked files with error %d: %d alone", code, seen[code])
		}
	}
}

// pieces answers a text's tokens, each with what stands between it and the next.
func pieces(text string) []string {
	tokens, _ := lex.Scan(text)
	var parts []string
	for i := range len(tokens) - 1 {
		parts = append(parts, text[tokens[i].At:tokens[i+1].At])
	}
	return parts
}

// TestSpoiltFiles has files with a token or two that lack, come twice, or stand in another place, and files that end too early.
func TestSpoiltFiles(t *testing.T) {
	g := newReader()
	r := rand.New(rand.NewSource(4))
	seen := map[api.Errno]int{}
	for range 3000 {
		parts := pieces(write(r, r.Intn(25), 0, 0).text)
		for range 1 + r.Intn(2) {
			at, other := r.Intn(len(parts)), r.Intn(len(parts))
			switch r.Intn(4) {
			case 0:
				parts = slices.Delete(parts, at, at+1)
			case 1:
				parts = slices.Insert(parts, at, parts[other])
			case 2:
				parts[at], parts[other] = parts[other], parts[at]
			case 3:
				parts = parts[:at]
			}
			parts = append(parts, " ")
		}
		seen[checkGrammar(t, g, strings.Join(parts, ""))]++
	}
	for _, code := range []api.Errno{api.OK, api.ErrSyntax} {
		if seen[code] < 300 {
			t.Errorf("spoilt files with error %d: %d alone", code, seen[code])
		}
	}
}
