package show

import (
	"strings"

	"purlin/api"
)

// Between quotes, a rune of escaped is written as a backslash and the letter at
// its place in letters.
const (
	escaped = "\\\"$\n\t\r"
	letters = `\"$ntr`
)

const quote = `"`

func (w *writer) quoted(text string) {
	w.put(quote)
	w.said(text)
	w.put(quote)
}

// said writes a text as it would stand between quotes.
func (w *writer) said(text string) {
	behind := 0 // what is ahead of it has been written
	for at, r := range text {
		if place := strings.IndexRune(escaped, r); place >= 0 {
			w.put(text[behind:at], `\`, letters[place:place+1])
			behind = at + 1
		}
	}
	w.put(text[behind:])
}

func (w *writer) template(e api.Expr) {
	w.put(quote)
	for i, arg := range e.Args {
		if i < len(e.Keys) && e.Keys[i] == "t" {
			w.said(w.at(arg).Text)
			continue
		}
		w.put("${")
		w.expr(arg)
		w.put("}")
	}
	w.put(quote)
}
