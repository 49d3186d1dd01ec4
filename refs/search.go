package refs

import (
	"slices"
	"strings"

	"purlin/api"
)

// search goes through an expression, from the outside in.
type search struct {
	exprs  []api.Expr
	found  []string
	hidden []string // names of the fors in whose second part it is
	// left is how many expressions may come yet. Each has a byte of its own in the
	// text that it was parsed from, so no such file has more. One that goes round
	// in itself, which no text is parsed to, would not end.
	left int
}

// part goes through the expression at a place. Upon it are the names of the
// attributes that stand directly upon it, the outmost first.
func (s *search) part(place int, upon []string) {
	if place < 0 || place >= len(s.exprs) || s.left == 0 {
		return
	}
	s.left--
	e := s.exprs[place]
	switch {
	case e.Kind == api.XName:
		s.name(e.Text, upon)
	case e.Kind == api.XAttr && len(e.Args) == 1:
		s.part(e.Args[0], append(upon, e.Text))
	case e.Kind == api.XFor && len(e.Args) == 2:
		s.part(e.Args[0], nil)
		s.hidden = append(s.hidden, e.Text)
		s.part(e.Args[1], nil)
		s.hidden = s.hidden[:len(s.hidden)-1]
	default:
		for _, arg := range e.Args {
			s.part(arg, nil)
		}
	}
}

// name finds a reference, unless a for's name hides it. Its text is written
// anew, for even a name alone may share no memory with the file.
func (s *search) name(name string, upon []string) {
	if slices.Contains(s.hidden, name) {
		return
	}
	var text strings.Builder
	text.WriteString(name)
	for _, attr := range slices.Backward(upon) {
		text.WriteString(".")
		text.WriteString(attr)
	}
	s.found = append(s.found, text.String())
}
