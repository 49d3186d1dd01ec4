package syntax

import (
	"math/rand"
	"regexp"
	"strings"
	"testing"

	"purlin/api"
	"purlin/lex"
)

// grammar is the chapter's, each way of a rule in a line. A word in capitals is a rule, any other a token.
const grammar = `
FILE -> LINES TOPS
TOPS -> end
TOPS -> BLOCK end
TOPS -> BLOCK line LINES TOPS
LINES ->
LINES -> LINES line
BLOCK -> NAME TEXTS { BODY }
TEXTS ->
TEXTS -> TEXTS text
BODY -> LINES ITEMS
ITEMS ->
ITEMS -> ITEM
ITEMS -> ITEM line LINES ITEMS
ITEM -> NAME = EXPR
ITEM -> BLOCK
EXPR -> OR
EXPR -> OR ? EXPR : EXPR
OR -> AND
OR -> OR || AND
AND -> EQ
AND -> AND && EQ
EQ -> CMP
EQ -> EQ == CMP
EQ -> EQ != CMP
CMP -> SUM
CMP -> CMP < SUM
CMP -> CMP > SUM
CMP -> CMP <= SUM
CMP -> CMP >= SUM
SUM -> PROD
SUM -> SUM + PROD
SUM -> SUM - PROD
PROD -> SIGN
PROD -> PROD * SIGN
PROD -> PROD / SIGN
PROD -> PROD % SIGN
SIGN -> - SIGN
SIGN -> ! SIGN
SIGN -> POST
POST -> ATOM
POST -> POST . NAME
POST -> POST [ EXPR ]
POST -> POST [ * ] . NAME
ATOM -> number
ATOM -> text
ATOM -> template
ATOM -> WORD
ATOM -> WORD ( ARGS )
ATOM -> ( EXPR )
ATOM -> [ ARGS ]
ATOM -> [ for NAME in EXPR : EXPR ]
ATOM -> { LINES }
ATOM -> { LINES PAIRS LINES }
ATOM -> { LINES PAIRS , LINES }
ARGS ->
ARGS -> LIST
ARGS -> LIST ,
LIST -> EXPR
LIST -> LIST , EXPR
PAIRS -> PAIR
PAIRS -> PAIRS , LINES PAIR
PAIRS -> PAIRS line LINES PAIR
PAIR -> NAME = EXPR
PAIR -> text = EXPR
WORD -> name
WORD -> in
NAME -> WORD
NAME -> for`

// reader reads by Earley's way: it holds all that the tokens so far may be, so it knows of each token whether it can stand there.
type reader struct {
	rules [][]string // the rule, then what it is made of
	ways  map[string][]int
	empty map[string]bool
}

func newReader() *reader {
	r := &reader{ways: map[string][]int{}, empty: map[string]bool{}}
	for _, way := range strings.Split(strings.TrimSpace(grammar), "\n") {
		name, parts, _ := strings.Cut(way, " ->")
		r.ways[name] = append(r.ways[name], len(r.rules))
		r.rules = append(r.rules, append([]string{name}, strings.Fields(parts)...))
	}
	for range r.rules {
		for _, rule := range r.rules {
			all := true
			for _, part := range rule[1:] {
				all = all && r.empty[part]
			}
			r.empty[rule[0]] = r.empty[rule[0]] || all
		}
	}
	return r
}

// state: of a rule so many parts have been read, from a token on.
type state struct{ rule, dot, from int }

// stop answers the place of the first token that can't stand there, or their number.
func (r *reader) stop(kinds []string) int {
	sets := make([][]state, len(kinds)+1)
	for i := range sets {
		seen := map[state]bool{}
		add := func(s state) {
			if !seen[s] {
				seen[s] = true
				sets[i] = append(sets[i], s)
			}
		}
		if i == 0 {
			add(state{0, 1, 0})
		} else {
			for _, s := range sets[i-1] {
				if rule := r.rules[s.rule]; s.dot < len(rule) && rule[s.dot] == kinds[i-1] {
					add(state{s.rule, s.dot + 1, s.from})
				}
			}
			if len(sets[i]) == 0 {
				return i - 1
			}
		}
		for at := 0; at < len(sets[i]); at++ {
			s := sets[i][at]
			rule := r.rules[s.rule]
			if s.dot == len(rule) {
				for _, b := range sets[s.from] {
					if up := r.rules[b.rule]; b.dot < len(up) && up[b.dot] == rule[0] {
						add(state{b.rule, b.dot + 1, b.from})
					}
				}
				continue
			}
			for _, way := range r.ways[rule[s.dot]] {
				add(state{way, 1, i})
			}
			if r.empty[rule[s.dot]] {
				add(state{s.rule, s.dot + 1, s.from})
			}
		}
	}
	return len(kinds)
}

var escapedByte = regexp.MustCompile(`\\.`)

// kindOf answers the grammar's name of a token.
func kindOf(token api.Token) string {
	switch token.Kind {
	case api.TEnd:
		return "end"
	case api.TLine:
		return "line"
	case api.TNumber:
		return "number"
	case api.TString:
		if strings.Contains(escapedByte.ReplaceAllString(token.Text, "."), "${") {
			return "template"
		}
		return "text"
	case api.TName:
		if token.Text != "for" && token.Text != "in" {
			return "name"
		}
	}
	return token.Text
}

// counted answers the tokens that count, lines within ( ) and [ ] left out, and their kinds.
func counted(tokens []api.Token) ([]api.Token, []string) {
	var left []api.Token
	var kinds []string
	open := " "
	for _, token := range tokens {
		kind := kindOf(token)
		if kind == "line" && strings.Contains("([", open[len(open)-1:]) {
			continue
		}
		left, kinds = append(left, token), append(kinds, kind)
		switch {
		case kind != "" && strings.Contains("([{", kind):
			open += kind
		case strings.Contains(")]}", kind) && len(open) > 1:
			open = open[:len(open)-1]
		}
	}
	return left, kinds
}

// checkGrammar wants ErrSyntax at the first token that can't stand there by the grammar, or none. A text that Scan refuses, or that has a key twice, tells nothing; nothing else may be wrong with it. It answers the error.
func checkGrammar(t *testing.T, r *reader, text string) api.Errno {
	t.Helper()
	tokens, refused := lex.Scan(text)
	if refused != nil {
		return refused.Code
	}
	left, kinds := counted(tokens)
	stop := r.stop(kinds)
	_, wrong := Parse(text)
	switch {
	case wrong != nil && wrong.Code == api.ErrTwice && (stop == len(left) || wrong.At < left[stop].At):
		return wrong.Code
	case stop == len(left) && wrong != nil:
		t.Fatalf("P5.1: Parse(%q): %+v, want none", text, wrong)
	case stop == len(left):
		return api.OK
	case wrong == nil || *wrong != (api.Diag{Code: api.ErrSyntax, At: left[stop].At}):
		t.Fatalf("P5.1: Parse(%q): %+v, want %d at %d", text, wrong, api.ErrSyntax, left[stop].At)
	}
	return api.ErrSyntax
}

// TestPickedTokens has tokens as they are picked, behind heads that may stand.
func TestPickedTokens(t *testing.T) {
	words := strings.Split("a b for for in null 1 2 \"t\" \"u${v}\" \n \n \n { } { } [ ] ( ) ( ) = = = , , , . : ? + - * ! == && || % for <<E\nt\nE\n", " ")
	heads := []string{"", "a {", "a { x =", "a { x = (", "a { x = [", "a { x = {", "a { x = {k = 1", "a { x = f(", "a { x = b", "a { x = b [", "a { x = b ? c", "a { x = [for v in l", "a { x = ({", "a { x = {k = ("}
	g := newReader()
	r := rand.New(rand.NewSource(1))
	seen := map[api.Errno]int{}
	for range 12000 {
		text := heads[r.Intn(len(heads))]
		for range r.Intn(8) {
			text += " " + words[r.Intn(len(words))]
		}
		seen[checkGrammar(t, g, text+strings.Repeat(" }", r.Intn(3)))]++
	}
	for _, code := range []api.Errno{api.OK, api.ErrSyntax} {
		if seen[code] < 200 {
			t.Errorf("picked tokens with error %d: %d alone", code, seen[code])
		}
	}
}

// TestEveryNext has each token behind beginnings that may stand.
func TestEveryNext(t *testing.T) {
	words := strings.Split("a|for|in|null|1|\"t\"|\"u${v}\"|\n|{|}|[|]|(|)|=|+|-|*|/|%|==|!=|<|>|<=|>=|&&|,|.|:|?|!|", "|")
	words = append(words, "||", "<<E\nt\nE\n")
	heads := []string{"", "a", "a \"b\"", "a {", "a {}", "a {}\n", "a { x", "a { x =", "a { x = 1", "a { x = 1\n", "a { b {", "a { b {}", "a { b {}\n"}
	for _, body := range []string{"", "1", "b", "null", "\"t\"", "\"u${v}\"", "(", "(1", "(1)", "[", "[1", "[1,", "[1]", "f(", "f(1", "f(1,", "f()", "{", "{\n", "{k", "{\"k\"", "{k =", "{k = 1", "{k = 1,", "{k = 1\n", "{k = 1,\n", "{}", "-", "!", "1 +", "1 + 2", "b ==", "b && c", "b ||", "b ?", "b ? c", "b ? c :", "b ? c : d", "b.", "b.c", "b[", "b[0", "b[0]", "b[*", "b[*]", "b[*].", "b[*].c", "[for", "[for v", "[for v in", "[for v in l", "[for v in l :", "[for v in l : w", "[for v in l : w]", "({", "({k = 1", "{k = (", "{k = (1", "{k = (1)"} {
		heads = append(heads, "a { x = "+body)
	}
	g := newReader()
	for _, head := range heads {
		for _, first := range words {
			_, wrong := Parse(head + " " + first)
			checkGrammar(t, g, head+first)
			checkGrammar(t, g, head+" "+first)
			if wrong != nil && wrong.At < len(head+" "+first) {
				continue // it goes no further
			}
			for _, second := range words {
				checkGrammar(t, g, head+" "+first+" "+second)
			}
		}
	}
}
