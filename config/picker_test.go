package config

import (
	"fmt"
	"math/rand"
	"slices"
	"strings"

	"purlin/api"
)

// item: an attribute of a block, or a block within it.
type item struct {
	name, says string
	block      *block
}

// block: one that is to be written.
type block struct {
	kind   string
	labels []string
	items  []item
}

// picker picks the files of modules that call one another.
type picker struct {
	*rand.Rand
	files map[string]string
	vars  map[string][]variable // of the modules that are written already
	deep  int                   // so deep modules are to be called at most
	calls int                   // so many a module has at most
	bad   int                   // one file in so many is made wrong; none, of 0
}

// variable: one of a module, and whether it has a default.
type variable struct {
	name string
	has  bool
}

func (p *picker) of(list ...string) string { return list[p.Intn(len(list))] }

func (p *picker) one(in int) bool { return in > 0 && p.Intn(in) == 0 }

// fresh answers names, each once.
func (p *picker) fresh(most int) []string {
	names := strings.Fields("a b c d e f x-1 _y count id null")
	p.Shuffle(len(names), func(i, j int) { names[i], names[j] = names[j], names[i] })
	return names[:p.Intn(most+1)]
}

func (p *picker) any() string {
	return p.of("1", "null", "true", "a.b + 2", "[x, y[0]]", "{k = v, w = [1]}", `"p${q}r"`, `"n"`, "[for v in l : v.a]", "f(1, g)", "(x ? y : z)", "<<E\nlong\nE")
}

func (p *picker) truth() string { return p.of("true", "false", "(true)") }

func (p *picker) depends() string {
	return p.of("[]", "[t.n]", "[t.n, u.v.w, t.n]", "[(t.n).m, a]", "([b, a])")
}

// odd answers what isn't what is asked somewhere.
func (p *picker) odd() string {
	return p.of("t.n", "[1]", "[t[0]]", "[t[0].n]", "[f(x)]", "[null]", "[t[*].n]", "[f(x).y]", `"a b"`, `""`, `"1"`, "a", `"${a}"`, `"a/b"`, "!false", "null", `"true"`, "1 1", "{k = 1, k = 2}", `"`+strings.Repeat("n", 33)+`"`, `"`+strings.Repeat("n", 32)+`"`)
}

func attrItem(name, says string) item { return item{name: name, says: says} }

// variables picks some, and their blocks.
func (p *picker) variables() ([]variable, []*block) {
	var vars []variable
	var all []*block
	for _, name := range p.fresh(3) {
		b := &block{kind: "variable", labels: []string{name}}
		if p.one(2) {
			b.items = append(b.items, attrItem("default", p.any()))
		}
		vars, all = append(vars, variable{name, len(b.items) > 0}), append(all, b)
	}
	return vars, all
}

func (p *picker) localsBlocks() []*block {
	names := p.fresh(5)
	var all []*block
	for len(names) > 0 || p.one(4) {
		b := &block{kind: "locals"}
		for range p.Intn(len(names) + 1) {
			b.items = append(b.items, attrItem(names[0], p.any()))
			names = names[1:]
		}
		all = append(all, b)
	}
	return all
}

func (p *picker) outputs() []*block {
	var all []*block
	for _, name := range p.fresh(2) {
		all = append(all, &block{"output", []string{name}, []item{attrItem("value", p.any())}})
	}
	return all
}

// resources picks blocks of a few types and names, no two of both.
func (p *picker) resources() []*block {
	var all []*block
	for _, both := range p.Perm(6)[:p.Intn(4)] {
		b := &block{kind: "resource", labels: []string{string("tu"[both%2]), string("nmo"[both/2])}}
		for _, name := range p.fresh(3) {
			if name != "id" && name != "count" {
				b.items = append(b.items, attrItem(name, p.any()))
			}
		}
		if p.one(3) {
			b.items = append(b.items, attrItem(p.of("count", "for_each"), p.any()))
		}
		if p.one(3) {
			b.items = append(b.items, attrItem("depends_on", p.depends()))
		}
		if p.one(3) {
			b.items = append(b.items, item{block: p.lifecycle()})
		}
		p.shuffle(b)
		all = append(all, b)
	}
	return all
}

func (p *picker) lifecycle() *block {
	b := &block{kind: "lifecycle"}
	for _, name := range []string{"create_before_destroy", "prevent_destroy"} {
		if p.one(2) {
			b.items = append(b.items, attrItem(name, p.truth()))
		}
	}
	p.shuffle(b)
	return b
}

func (p *picker) shuffle(b *block) {
	p.Shuffle(len(b.items), func(i, j int) { b.items[i], b.items[j] = b.items[j], b.items[i] })
}

// module writes the file of a directory, ahead of it those of the modules that it calls. It answers its variables.
func (p *picker) module(dir string, depth int) []variable {
	if vars, written := p.vars[dir]; written {
		return vars
	}
	vars, all := p.variables()
	p.vars[dir] = vars
	all = slices.Concat(all, p.localsBlocks(), p.outputs(), p.resources())
	names := p.fresh(p.calls)
	if depth >= p.deep {
		names = nil
	}
	for _, name := range names {
		all = append(all, p.call(name, dir, depth))
	}
	p.Shuffle(len(all), func(i, j int) { all[i], all[j] = all[j], all[i] })
	if p.one(p.bad) {
		all = p.wrong(all)
	}
	p.files[dir+"main.hcl"] = p.text(all)
	if p.bad > 0 && p.one(p.bad*10) {
		delete(p.files, dir+"main.hcl")
	}
	return vars
}

// call picks one that has arguments for what the module's variables ask.
func (p *picker) call(name, dir string, depth int) *block {
	source := p.of("a", "b", "net")
	b := &block{"module", []string{name}, []item{attrItem("source", `"`+source+`"`)}}
	for _, v := range p.module(dir+source+"/", depth+1) {
		if !v.has || p.one(2) {
			b.items = append(b.items, attrItem(v.name, p.any()))
		}
	}
	p.shuffle(b)
	return b
}

// text writes blocks.
func (p *picker) text(all []*block) string {
	var text strings.Builder
	for _, b := range all {
		p.write(&text, b)
		text.WriteString(p.of("\n", "\n\n", " # r\n \n"))
	}
	return text.String()
}

func (p *picker) write(text *strings.Builder, b *block) {
	text.WriteString(b.kind)
	for _, label := range b.labels {
		fmt.Fprintf(text, p.of(" ", "", "  ")+"%q", label)
	}
	text.WriteString(p.of(" {\n", "{ \n\n", " { # r\n"))
	for _, one := range b.items {
		if one.block != nil {
			p.write(text, one.block)
		} else {
			text.WriteString(p.of("", " ", "\t") + one.name + p.of(" = ", "=") + one.says)
		}
		text.WriteString("\n")
	}
	text.WriteString("}")
}

// wrong makes something of some blocks other than it is, which may be wrong then.
func (p *picker) wrong(all []*block) []*block {
	for range 1 + p.Intn(2) {
		if p.one(6) || len(all) == 0 {
			all = append(all, &block{kind: p.of("variable", "locals", "output", "resource", "module", "lifecycle", "nope")})
		}
		b := all[p.Intn(len(all))]
		if i := slices.IndexFunc(all, func(b *block) bool { return b.kind == "module" }); i >= 0 && p.one(3) {
			b = all[i]
		}
		if p.one(8) {
			again := *b
			all = slices.Insert(all, p.Intn(len(all)+1), &again)
		}
		p.wrongBlock(b)
	}
	return all
}

// wrongBlock changes a block, or one within it.
func (p *picker) wrongBlock(b *block) {
	b.items = slices.Clone(b.items)
	for i := range b.items {
		if within := b.items[i].block; within != nil && p.one(2) {
			again := *within
			b.items[i].block = &again
			p.wrongBlock(&again)
			return
		}
	}
	switch p.Intn(6) {
	case 0:
		p.wrongHead(b)
	case 1:
		b.items = slices.Insert(b.items, p.Intn(len(b.items)+1), p.odds())
	case 2:
		b.items = append(b.items, attrItem(p.of("a", "b", "q"), p.of(p.any(), p.any(), p.odd())))
	default:
		p.wrongItem(b)
	}
}

func (p *picker) wrongHead(b *block) {
	b.labels = slices.Clone(b.labels)
	switch {
	case p.one(4):
		b.kind = p.of("variable", "locals", "output", "resource", "module", "lifecycle", "nope")
	case p.one(2) && len(b.labels) > 0:
		b.labels[p.Intn(len(b.labels))] = p.of("", "1", "a b", "var", "each", "a", "b", "t", "n", "null", strings.Repeat("n", api.MaxName), strings.Repeat("n", api.MaxName+1))
	case p.one(2) && len(b.labels) > 0:
		b.labels = b.labels[1:]
	default:
		b.labels = append(b.labels, p.of("a", "b"))
	}
}

// odds picks what may be at odds with a block.
func (p *picker) odds() item {
	if p.one(2) {
		return item{block: &block{kind: p.of("lifecycle", "lifecycle", "x"), labels: p.fresh(1), items: []item{attrItem(p.name(), p.truth())}[:p.Intn(2)]}}
	}
	return attrItem(p.name(), p.of(p.any(), p.odd(), p.truth(), p.depends()))
}

func (p *picker) name() string {
	return p.of("default", "value", "source", "id", "count", "for_each", "depends_on", "create_before_destroy", "prevent_destroy", "a", "b")
}

func (p *picker) wrongItem(b *block) {
	if len(b.items) == 0 {
		return
	}
	i := p.Intn(len(b.items))
	switch p.Intn(4) {
	case 0:
		b.items = slices.Insert(b.items, p.Intn(len(b.items)+1), b.items[i])
	case 1:
		b.items = slices.Delete(b.items, i, i+1)
	case 2:
		b.items[i].name = p.name()
	case 3:
		b.items[i].says = p.of(p.odd(), p.odd(), p.any(), p.truth(), p.depends())
	}
}

// picked answers the files of modules so deep, with at most so many calls each, one file in so many made wrong.
func picked(seed int64, deep, calls, bad int) map[string]string {
	p := picker{rand.New(rand.NewSource(seed)), map[string]string{}, map[string][]variable{}, deep, calls, bad}
	p.module("", 0)
	return p.files
}
