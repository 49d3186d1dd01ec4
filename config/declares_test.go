package config

import (
	"slices"

	"purlin/api"
)

// blocksOf answers a file's outmost blocks of a type that have so many labels.
func blocksOf(f api.File, kind string, labels int) []api.Block {
	var all []api.Block
	for _, place := range f.Top {
		if b := f.Blocks[place]; b.Type == kind && len(b.Labels) == labels {
			all = append(all, b)
		}
	}
	return all
}

// exprOf answers the place of what an attribute of a block says, or -1.
func exprOf(b api.Block, name string) int {
	for _, a := range b.Attrs {
		if a.Name == name {
			return a.Expr
		}
	}
	return -1
}

// without answers a block's attributes but for some.
func without(b api.Block, names ...string) []api.Attr {
	return slices.DeleteFunc(slices.Clone(b.Attrs), func(a api.Attr) bool { return slices.Contains(names, a.Name) })
}

// declares answers what a file declares, list by list, whatever is wrong with it. Of a call Mod is the place of what source says.
func declares(dir string, f api.File) api.Mod {
	m := api.Mod{Dir: dir, File: f}
	for _, b := range blocksOf(f, "variable", 1) {
		m.Vars = append(m.Vars, api.Var{Name: b.Labels[0], Default: exprOf(b, "default"), At: b.At})
	}
	for _, b := range blocksOf(f, "locals", 0) {
		m.Locals = append(m.Locals, b.Attrs...)
	}
	for _, b := range blocksOf(f, "output", 1) {
		m.Outputs = append(m.Outputs, api.Attr{Name: b.Labels[0], Expr: exprOf(b, "value"), At: b.At})
	}
	for _, b := range blocksOf(f, "resource", 2) {
		m.Res = append(m.Res, resource(f, b))
	}
	for _, b := range blocksOf(f, "module", 1) {
		if source := exprOf(b, "source"); source >= 0 && f.Exprs[source].Kind == api.XText {
			m.Calls = append(m.Calls, api.Call{Name: b.Labels[0], Mod: source, Args: without(b, "source"), At: b.At})
		}
	}
	return m
}

func resource(f api.File, b api.Block) api.Res {
	r := api.Res{Type: b.Labels[0], Name: b.Labels[1], Attrs: without(b, "count", "for_each", "depends_on"), Count: exprOf(b, "count"), Each: exprOf(b, "for_each"), At: b.At}
	if place := exprOf(b, "depends_on"); place >= 0 {
		r.Deps = references(f, f.Exprs[place])
	}
	for _, place := range b.Blocks {
		says := func(name string) bool {
			said := exprOf(f.Blocks[place], name)
			return said >= 0 && f.Exprs[said].Kind == api.XTrue
		}
		r.Swap, r.Prevent = says("create_before_destroy"), says("prevent_destroy")
	}
	return r
}
