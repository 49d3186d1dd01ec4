package refs

import (
	"fmt"
	"math/rand"
	"slices"
	"strings"
)

// part: an expression that was picked, its references as they come, and whether an attribute upon it stands directly upon a name.
type part struct {
	text  string
	refs  []string
	chain bool
}

// of puts parts together, whose texts stand where the form says.
func of(form string, parts ...part) part {
	var texts []any
	var refs []string
	for _, one := range parts {
		texts, refs = append(texts, one.text), append(refs, one.refs...)
	}
	return part{text: fmt.Sprintf(form, texts...), refs: refs}
}

// picker picks expressions of a kind that is wanted: n a number, b a truth, s a text, l a list of numbers, o an object, O a list of such. Now and then it picks another one.
type picker struct {
	r      *rand.Rand
	left   int         // about how many parts may still come
	hidden [][2]string // of loops that are open: the name, its kind
}

func (p *picker) pick(of ...string) string { return of[p.r.Intn(len(of))] }

// roots has names of a kind, or some of no known kind.
func roots(kind string) []string {
	switch kind {
	case "n":
		return []string{"n", "m", "a-b_1"}
	case "b":
		return []string{"yes", "no"}
	case "s":
		return []string{"s", "e", "t"}
	case "l":
		return []string{"l", "l", "_"}
	case "o":
		return []string{"o", "x", "var"}
	case "O":
		return []string{"lo", "in"}
	}
	return []string{"u", "none", "nowhere", "v", "w"}
}

func (p *picker) name(kind string) part {
	names := roots(kind)
	for _, h := range p.hidden {
		if h[1] == kind {
			names = append(names, h[0], h[0], h[0])
		}
	}
	name := p.pick(names...)
	if slices.ContainsFunc(p.hidden, func(h [2]string) bool { return h[0] == name }) {
		return part{text: name, chain: true}
	}
	return part{text: name, refs: []string{name}, chain: true}
}

func (p *picker) expr(kind string) part {
	p.left--
	switch p.r.Intn(40) {
	case 0:
		kind = p.pick("n", "b", "s", "l", "o", "O")
	case 1, 2:
		return p.name("")
	case 3:
		e := p.expr(kind)
		return part{"(" + e.text + ")", e.refs, e.chain}
	}
	switch {
	case p.left <= 0 && p.r.Intn(3) == 0:
		return p.plain(kind)
	case p.left <= 0:
		return p.name(kind)
	case p.r.Intn(8) == 0:
		return of("(%s ? %s : %s)", p.expr("b"), p.expr(kind), p.expr(kind))
	}
	return p.made(kind)
}

func (p *picker) plain(kind string) part {
	switch kind {
	case "n":
		return part{text: p.pick("0", "1", "7")}
	case "b":
		return part{text: p.pick("true", "false")}
	case "s":
		return part{text: p.pick(`""`, `"x.y"`, `"\${n}"`)}
	case "l":
		return part{text: p.pick("[]", "[3, 4]", "range(2)")}
	case "o":
		return part{text: p.pick("{}", `{a = 1, "k" = "x", l = [], o = {}}`)}
	}
	return part{text: p.pick("[]", "[{a = 1}]")}
}

// attr picks an attribute of an object: upon a name, or attributes upon one, it is a part of that one's references.
func (p *picker) attr(name string) part {
	one := p.expr("o")
	if !one.chain {
		return of("(%s)."+name, one)
	}
	up := part{text: p.pick(one.text, "("+one.text+")") + p.pick(".", " . ") + name, chain: true}
	for _, ref := range one.refs {
		up.refs = append(up.refs, ref+"."+name)
	}
	return up
}

func (p *picker) made(kind string) part {
	choices := []func() part{
		func() part { return of("(%s)[%s]", p.expr("O"), p.expr("n")) },
		func() part {
			return of(`{a = %s, "k" = %s, l = %s, o = %s}`, p.expr("n"), p.expr("s"), p.expr("l"), p.expr("o"))
		},
		func() part { return p.attr("o") }, func() part { return p.attr("o") },
		func() part { return of("merge(%s, %s)", p.expr("o"), p.expr("o")) },
	}
	switch kind {
	case "n":
		choices = p.numbers()
	case "b":
		choices = p.truths()
	case "s":
		choices = p.texts()
	case "l":
		choices = p.lists()
	case "O":
		choices = []func() part{
			func() part { return of("[%s, %s]", p.expr("o"), p.expr("o")) },
			func() part { return p.loop("l", "n", "o") }, func() part { return p.loop("O", "o", "o") },
			func() part { return of("(%s)[*].o", p.expr("O")) },
		}
	}
	return choices[p.r.Intn(len(choices))]()
}

func (p *picker) numbers() []func() part {
	return []func() part{
		func() part { return of("(%s "+p.pick("+", "-", "*", "/", "%%")+" %s)", p.expr("n"), p.expr("n")) },
		func() part { return of("-%s", p.expr("n")) },
		func() part { return of("(%s)[%s]", p.expr("l"), p.expr("n")) },
		func() part { return of(`(%s)["a"]`, p.expr("o")) },
		func() part { return of("length(%s)", p.expr(p.pick("s", "l", "O"))) },
		func() part { return p.attr("a") }, func() part { return p.attr("a") },
	}
}

func (p *picker) truths() []func() part {
	kind := p.pick("n", "s", "l", "o")
	return []func() part{
		func() part { return of("(%s "+p.pick("==", "!=")+" %s)", p.expr(kind), p.expr(kind)) },
		func() part { return of("(%s "+p.pick("<", ">", "<=", ">=")+" %s)", p.expr("n"), p.expr("n")) },
		func() part { return of("(%s "+p.pick("&&", "||")+" %s)", p.expr("b"), p.expr("b")) },
		func() part { return of("!%s", p.expr("b")) },
	}
}

func (p *picker) texts() []func() part {
	return []func() part{
		func() part { return of(`"t${%s}x.y${%s}"`, p.expr("s"), p.expr("n")) },
		func() part { return of(`"${%s}"`, p.expr("b")) },
		func() part { return of("upper(%s)", p.expr("s")) },
		func() part { return of("(%s)[%s]", p.expr("o"), p.expr("s")) },
		func() part { return p.attr("k") }, func() part { return p.attr("k") },
	}
}

func (p *picker) lists() []func() part {
	return []func() part{
		func() part { return of("[%s, %s]", p.expr("n"), p.expr("n")) },
		func() part { return of("concat(%s, %s)", p.expr("l"), p.expr("l")) },
		func() part { return p.loop("l", "n", "n") }, func() part { return p.loop("O", "o", "n") },
		func() part { return of("(%s)[*].a", p.expr("O")) },
		func() part { return p.attr("l") },
	}
}

// loop picks one over a list, whose items are of a kind, that makes others.
func (p *picker) loop(list, item, made string) part {
	name := p.pick("v", "v", "w", "n", "o", "l", "in")
	over := p.expr(list)
	outer := p.hidden
	p.hidden = append(slices.DeleteFunc(slices.Clone(outer), func(h [2]string) bool { return h[0] == name }), [2]string{name, item})
	body := p.expr(made)
	p.hidden = outer
	return of("[for "+name+" in %s : %s]", over, body)
}

// pickedParts answers so many expressions, short ones and long ones, none too deep to be parsed; their references rise, each once.
func pickedParts(seed int64, n int) []part {
	p := picker{r: rand.New(rand.NewSource(seed))}
	var parts []part
	for len(parts) < n {
		p.left = p.r.Intn(16)
		one := p.expr(p.pick("n", "b", "s", "l", "o", "O"))
		depth := strings.Count(one.text, "(") + strings.Count(one.text, "[") + strings.Count(one.text, "{") + strings.Count(one.text, "-") + strings.Count(one.text, "!")
		if depth >= 20 {
			continue
		}
		slices.Sort(one.refs)
		one.refs = slices.Compact(one.refs)
		parts = append(parts, one)
	}
	return parts
}
