package syntax

import "purlin/api"

// whole reads a file.
func (p *parser) whole() {
	p.items(func(name api.Token) {
		p.file.Top = append(p.file.Top, p.block(name))
	})
	p.wantKind(api.TEnd)
}

// items reads what begins with a name, one of these a line. It stops where none
// can begin: what has to stand there is for who called.
func (p *parser) items(read func(name api.Token)) {
	p.skipLines()
	for p.peek().Kind == api.TName {
		read(p.take())
		if !p.skipLines() {
			return
		}
	}
}

// block reads one from behind its type on, and answers its place.
func (p *parser) block(name api.Token) int {
	b := api.Block{Type: name.Text, At: name.At}
	for p.peek().Kind == api.TString {
		b.Labels = append(b.Labels, p.plain())
	}
	p.braced(func() {
		p.items(func(name api.Token) { p.item(&b, name) })
	})
	p.file.Blocks = append(p.file.Blocks, b)
	return len(p.file.Blocks) - 1
}

// item reads an attribute or a block of a block, from behind its name on.
func (p *parser) item(b *api.Block, name api.Token) {
	if p.skip("=") {
		b.Attrs = append(b.Attrs, api.Attr{Name: name.Text, Expr: p.expr(), At: name.At})
		return
	}
	b.Blocks = append(b.Blocks, p.block(name))
}
