package syntax

import (
	"slices"

	"purlin/api"
)

// levels has the kinds that join two expressions, the loosest first: of each
// level the first and the last, for kinds of one level stand side by side.
var levels = [...][2]api.ExprKind{
	{api.XOr, api.XOr},
	{api.XAnd, api.XAnd},
	{api.XEq, api.XNe},
	{api.XLt, api.XGe},
	{api.XAdd, api.XSub},
	{api.XMul, api.XMod},
}

// add answers the place of an expression that has ended.
func (p *parser) add(e api.Expr) int {
	p.file.Exprs = append(p.file.Exprs, e)
	return len(p.file.Exprs) - 1
}

// expr reads an EXPR and answers its place, as those below do of their rules.
func (p *parser) expr() int {
	first := p.joined(0)
	if !p.is("?") {
		return first
	}
	e := api.Expr{Kind: api.XCond, Args: []int{first}, At: p.take().At}
	p.deeper(e.At, func() {
		e.Args = append(e.Args, p.expr())
		p.want(":")
		e.Args = append(e.Args, p.expr())
	})
	return p.add(e)
}

// joined reads what the signs of a level join, from the left, out of what those
// of the next level join.
func (p *parser) joined(level int) int {
	if level == len(levels) {
		return p.signed()
	}
	left := p.joined(level + 1)
	for {
		kind := joins(p.peek())
		if kind < levels[level][0] || kind > levels[level][1] {
			return left
		}
		at := p.take().At
		right := p.joined(level + 1)
		left = p.add(api.Expr{Kind: kind, Args: []int{left, right}, At: at})
	}
}

// joins answers the kind of what a token joins, 0 if it joins nothing. The kinds
// are numbered in the order of their signs: each sign goes on to the one ahead.
func joins(t api.Token) api.ExprKind {
	if t.Kind != api.TSign {
		return 0
	}
	kind := api.XAdd
	switch t.Text {
	case "||":
		kind++
		fallthrough
	case "&&":
		kind++
		fallthrough
	case ">=":
		kind++
		fallthrough
	case "<=":
		kind++
		fallthrough
	case ">":
		kind++
		fallthrough
	case "<":
		kind++
		fallthrough
	case "!=":
		kind++
		fallthrough
	case "==":
		kind++
		fallthrough
	case "%":
		kind++
		fallthrough
	case "/":
		kind++
		fallthrough
	case "*":
		kind++
		fallthrough
	case "-":
		kind++
		fallthrough
	case "+":
		return kind
	}
	return 0
}

func (p *parser) signed() int {
	kind := api.XNeg
	switch {
	case p.is("!"):
		kind = api.XNot
	case !p.is("-"):
		return p.posted()
	}
	e := api.Expr{Kind: kind, At: p.take().At}
	p.deeper(e.At, func() { e.Args = []int{p.signed()} })
	return p.add(e)
}

func (p *parser) posted() int {
	one := p.atom()
	for {
		switch {
		case p.is("."):
			e := api.Expr{Kind: api.XAttr, Args: []int{one}, At: p.take().At}
			e.Text = p.wantKind(api.TName).Text
			one = p.add(e)
		case p.is("["):
			one = p.indexed(one)
		default:
			return one
		}
	}
}

// indexed reads an index of one, or [*] and the name that belongs to it.
func (p *parser) indexed(one int) int {
	e := api.Expr{Kind: api.XIndex, Args: []int{one}}
	e.At = p.grouped("[", "]", func() {
		if p.skip("*") {
			e.Kind = api.XSplat
		} else {
			e.Args = append(e.Args, p.expr())
		}
	})
	if e.Kind == api.XSplat {
		p.want(".")
		e.Text = p.wantKind(api.TName).Text
	}
	return p.add(e)
}

func (p *parser) atom() int {
	next := p.peek()
	switch {
	case next.Kind == api.TNumber:
		p.take()
		return p.add(api.Expr{Kind: api.XInt, Text: next.Text, At: next.At})
	case next.Kind == api.TString:
		return p.text()
	case next.Kind == api.TName && next.Text != "for":
		return p.named()
	case p.is("("):
		var one int
		p.grouped("(", ")", func() { one = p.expr() })
		return one
	case p.is("["):
		return p.list()
	case p.is("{"):
		return p.object()
	}
	panic(p.refusal())
}

// named reads a name and, if it is a call's, the arguments.
func (p *parser) named() int {
	name := p.take()
	e := api.Expr{At: name.At}
	switch {
	case p.is("("):
		e.Kind, e.Text = api.XCall, name.Text
		p.grouped("(", ")", func() { e.Args = p.args(")") })
	case name.Text == "null":
		e.Kind = api.XNull
	case name.Text == "true":
		e.Kind = api.XTrue
	case name.Text == "false":
		e.Kind = api.XFalse
	default:
		e.Kind, e.Text = api.XName, name.Text
	}
	return p.add(e)
}

// args reads ARGS, behind which the end is to stand.
func (p *parser) args(end string) []int {
	var args []int
	for !p.is(end) {
		args = append(args, p.expr())
		if !p.skip(",") {
			break
		}
	}
	return args
}

// list reads one, or a for.
func (p *parser) list() int {
	e := api.Expr{Kind: api.XList}
	e.At = p.grouped("[", "]", func() {
		if !p.skip("for") {
			e.Args = p.args("]")
			return
		}
		e.Kind, e.Text = api.XFor, p.wantKind(api.TName).Text
		p.want("in")
		e.Args = append(e.Args, p.expr())
		p.want(":")
		e.Args = append(e.Args, p.expr())
	})
	return p.add(e)
}

func (p *parser) object() int {
	e := api.Expr{Kind: api.XObject}
	e.At = p.braced(func() {
		p.skipLines()
		for !p.is("}") {
			e.Keys = append(e.Keys, p.key(e.Keys))
			p.want("=")
			e.Args = append(e.Args, p.expr())
			comma := p.skip(",")
			if !p.skipLines() && !comma {
				return
			}
		}
	})
	return p.add(e)
}

// key reads one that isn't among those ahead.
func (p *parser) key(ahead []string) string {
	var key string
	at := p.peek().At
	if p.peek().Kind == api.TString {
		key = p.plain()
	} else {
		key = p.wantKind(api.TName).Text
	}
	if slices.Contains(ahead, key) {
		panic(diag(api.ErrTwice, at))
	}
	return key
}
