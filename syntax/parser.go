package syntax

import "purlin/api"

// parser goes through tokens from the front. It throws what is wrong, as a
// *api.Diag, at the first token that is wrong in any way.
type parser struct {
	tokens []api.Token // those that are ahead, with TEnd as the last
	over   bool        // lines are passed over
	depth  int
	file   *api.File // what has ended so far
}

// peek answers the token that is next.
func (p *parser) peek() api.Token {
	for p.over && p.tokens[0].Kind == api.TLine {
		p.tokens = p.tokens[1:]
	}
	return p.tokens[0]
}

// take goes behind the token that is next.
func (p *parser) take() api.Token {
	next := p.peek()
	p.tokens = p.tokens[1:]
	return next
}

// is: is this sign, or small word, next? What stands between quotes is neither.
func (p *parser) is(word string) bool {
	next := p.peek()
	return next.Kind != api.TString && next.Text == word
}

// skip goes behind this sign, or small word, if it is next.
func (p *parser) skip(word string) bool {
	if !p.is(word) {
		return false
	}
	p.take()
	return true
}

// skipLines goes behind all lines that are next. Was there one?
func (p *parser) skipLines() bool {
	found := false
	for p.peek().Kind == api.TLine {
		p.take()
		found = true
	}
	return found
}

func (p *parser) want(word string) api.Token {
	if !p.is(word) {
		panic(p.refusal())
	}
	return p.take()
}

func (p *parser) wantKind(kind api.TokKind) api.Token {
	if p.peek().Kind != kind {
		panic(p.refusal())
	}
	return p.take()
}

// refusal answers what is thrown where the token that is next can't stand there.
func (p *parser) refusal() *api.Diag { return diag(api.ErrSyntax, p.peek().At) }

// deeper reads what is one deeper by what stands at a byte.
func (p *parser) deeper(at int, read func()) {
	if p.depth == api.MaxNest {
		panic(diag(api.ErrDeep, at))
	}
	p.depth++
	read()
	p.depth--
}

// grouped reads what stands within ( ) or [ ], where lines are passed over. It
// answers where that begins.
func (p *parser) grouped(begin, end string, read func()) int {
	return p.between(begin, end, true, read)
}

// braced reads what stands within braces, where lines count even if the braces
// stand within ( ) or [ ]. It answers where that begins.
func (p *parser) braced(read func()) int { return p.between("{", "}", false, read) }

// between takes the end while lines are as within: behind it they are as ahead again.
func (p *parser) between(begin, end string, over bool, read func()) int {
	at := p.want(begin).At
	p.deeper(at, func() {
		outside := p.over
		p.over = over
		read()
		p.want(end)
		p.over = outside
	})
	return at
}
