package config

import (
	"slices"
	"strings"

	"purlin/api"
	"purlin/lex"
	"purlin/syntax"
)

// reader goes through the file of one module.
type reader struct {
	path    string
	mod     api.Mod
	sources []string // of its calls, each at its call's place
}

// read reads what a directory's module declares. Its calls don't tell their
// modules yet.
func (l *loader) read(dir string) *reader {
	r := &reader{path: dir + "main.hcl", mod: api.Mod{Dir: dir}}
	data, there := l.disk.Read(r.path)
	r.want(there, api.ErrModule, 0)
	file, wrong := syntax.Parse(string(data))
	if wrong != nil {
		r.refuse(wrong.Code, wrong.At)
	}
	r.mod.File = file
	for _, place := range file.Top {
		r.block(file.Blocks[place])
	}
	return r
}

// refuse throws what is wrong at a byte of the file.
func (r *reader) refuse(code api.Errno, at int) {
	panic(&api.Diag{Code: code, File: strings.Clone(r.path), At: at})
}

// want throws what is wrong, unless it is right.
func (r *reader) want(right bool, code api.Errno, at int) {
	if !right {
		r.refuse(code, at)
	}
}

// labels answers a block's, which are to be so many names.
func (r *reader) labels(b api.Block, count int) []string {
	r.want(len(b.Labels) == count, api.ErrBlock, b.At)
	var names []string
	for _, label := range b.Labels {
		r.want(isName(label), api.ErrBlock, b.At)
		names = append(names, strings.Clone(label))
	}
	return names
}

// attrs goes through a block's attributes. Of each takes answers whether it may
// stand there and is what is asked.
func (r *reader) attrs(b api.Block, takes func(a api.Attr) bool) {
	for i, a := range b.Attrs {
		r.want(!hasAttr(b.Attrs[:i], a.Name), api.ErrTwice, a.At)
		r.want(takes(a), api.ErrBlock, a.At)
	}
}

// noBlocks refuses the first block within one that may have none.
func (r *reader) noBlocks(b api.Block) {
	for _, place := range b.Blocks {
		r.refuse(api.ErrBlock, r.mod.File.Blocks[place].At)
	}
}

// expr answers what an attribute says.
func (r *reader) expr(a api.Attr) api.Expr { return r.mod.File.Exprs[a.Expr] }

// isReference: is the expression at a place a name, perhaps with attributes
// directly upon it?
func (r *reader) isReference(place int) bool {
	e := r.mod.File.Exprs[place]
	for e.Kind == api.XAttr {
		e = r.mod.File.Exprs[e.Args[0]]
	}
	return e.Kind == api.XName
}

// isName: is a text one name, and nothing else?
func isName(text string) bool {
	tokens, wrong := lex.Scan(text)
	return wrong == nil && tokens[0].Kind == api.TName && tokens[0].Text == text
}

func hasAttr(attrs []api.Attr, name string) bool {
	return slices.ContainsFunc(attrs, func(a api.Attr) bool { return a.Name == name })
}

// own answers an attribute that shares no memory with the file's.
func own(a api.Attr) api.Attr {
	a.Name = strings.Clone(a.Name)
	return a
}
