package syntax

import (
	"strings"

	"purlin/api"
)

// plain reads a text that has no insertion, and answers what it says.
func (p *parser) plain() string {
	text := p.peek().Text
	if begin, _ := insertion(text); begin < len(text) {
		panic(p.refusal())
	}
	p.take()
	return said(text)
}

// text reads a text as an expression.
func (p *parser) text() int {
	t := p.take()
	if begin, _ := insertion(t.Text); begin == len(t.Text) {
		return p.add(api.Expr{Kind: api.XText, Text: said(t.Text), At: t.At})
	}
	e := api.Expr{Kind: api.XTemplate, At: t.At}
	for rest, at := t.Text, t.At+len(`"`); rest != ""; {
		begin, end := insertion(rest)
		if begin > 0 {
			e.Keys = append(e.Keys, "t")
			e.Args = append(e.Args, p.add(api.Expr{Kind: api.XText, Text: said(rest[:begin]), At: at}))
		}
		if begin < end {
			e.Keys = append(e.Keys, "e")
			e.Args = append(e.Args, p.inserted(rest[begin:end], at+begin))
		}
		rest, at = rest[end:], at+end
	}
	return p.add(e)
}

// inserted reads the one expression of an insertion that begins at a byte of the
// whole text.
func (p *parser) inserted(text string, at int) int {
	var one int
	p.deeper(at, func() {
		inside := text[len("${") : len(text)-len("}")]
		inner := parser{tokens: scanned(inside, at+len("${")), depth: p.depth, file: p.file}
		one = inner.expr()
		inner.wantKind(api.TEnd)
	})
	return one
}

// insertion answers where a text's first one begins, and where it ends. Both are
// the text's length, if it has none.
func insertion(text string) (int, int) {
	for at := 0; at < len(text); at++ {
		switch {
		case text[at] == '\\':
			at++
		case strings.HasPrefix(text[at:], "${"):
			return at, behindBrace(text, at+len("${"))
		}
	}
	return len(text), len(text)
}

// behindBrace answers where what stands in a brace has ended with its own brace.
// There is one, for the text was scanned.
func behindBrace(text string, at int) int {
	for text[at] != '}' {
		switch text[at] {
		case '{':
			at = behindBrace(text, at+1)
		case '"':
			at = behindQuote(text, at+1)
		default:
			at++
		}
	}
	return at + 1
}

// behindQuote answers where what stands in quotes has ended with its own quote.
func behindQuote(text string, at int) int {
	for text[at] != '"' {
		switch {
		case text[at] == '\\':
			at += 2
		case strings.HasPrefix(text[at:], "${"):
			at = behindBrace(text, at+len("${"))
		default:
			at++
		}
	}
	return at + 1
}

// said answers what a piece of a text without an insertion says.
func said(piece string) string {
	var text []byte
	for at := 0; at < len(piece); at++ {
		b := piece[at]
		if b == '\\' {
			at++
			b = escaped(piece[at])
		}
		text = append(text, b)
	}
	return string(text)
}

// escaped answers the byte that one stands for behind a backslash.
func escaped(b byte) byte {
	switch b {
	case 'n':
		return '\n'
	case 't':
		return '\t'
	case 'r':
		return '\r'
	}
	return b
}
