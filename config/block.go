package config

import (
	"slices"

	"purlin/api"
	"purlin/refs"
)

// block reads an outmost block.
func (r *reader) block(b api.Block) {
	switch b.Type {
	case "variable":
		r.variable(b)
	case "locals":
		r.locals(b)
	case "output":
		r.output(b)
	case "resource":
		r.resource(b)
	case "module":
		r.call(b)
	default:
		r.refuse(api.ErrBlock, b.At)
	}
}

func (r *reader) variable(b api.Block) {
	v := api.Var{Name: r.labels(b, 1)[0], Default: -1, At: b.At}
	r.attrs(b, func(a api.Attr) bool {
		v.Default = a.Expr
		return a.Name == "default"
	})
	r.noBlocks(b)
	r.want(!hasVar(r.mod.Vars, v.Name), api.ErrTwice, b.At)
	r.mod.Vars = append(r.mod.Vars, v)
}

func (r *reader) locals(b api.Block) {
	r.labels(b, 0)
	r.attrs(b, func(a api.Attr) bool {
		r.want(!hasAttr(r.mod.Locals, a.Name), api.ErrTwice, a.At)
		r.mod.Locals = append(r.mod.Locals, own(a))
		return true
	})
	r.noBlocks(b)
}

func (r *reader) output(b api.Block) {
	o := api.Attr{Name: r.labels(b, 1)[0], Expr: -1, At: b.At}
	r.attrs(b, func(a api.Attr) bool {
		o.Expr = a.Expr
		return a.Name == "value"
	})
	r.noBlocks(b)
	r.want(o.Expr >= 0, api.ErrBlock, b.At)
	r.want(!hasAttr(r.mod.Outputs, o.Name), api.ErrTwice, b.At)
	r.mod.Outputs = append(r.mod.Outputs, o)
}

func (r *reader) resource(b api.Block) {
	labels := r.labels(b, 2)
	res := api.Res{Type: labels[0], Name: labels[1], Count: -1, Each: -1, At: b.At}
	r.want(!isTaken(res.Type), api.ErrBlock, b.At)
	r.attrs(b, func(a api.Attr) bool { return r.resourceTakes(&res, a) })
	for i, place := range b.Blocks {
		within := r.mod.File.Blocks[place]
		// Whatever is ahead of it is a lifecycle, or was refused.
		r.want(i == 0 || within.Type != "lifecycle", api.ErrTwice, within.At)
		r.lifecycle(&res, within)
	}
	twice := slices.ContainsFunc(r.mod.Res, func(other api.Res) bool {
		return other.Type == res.Type && other.Name == res.Name
	})
	r.want(!twice, api.ErrTwice, b.At)
	r.mod.Res = append(r.mod.Res, res)
}

// isTaken: does it mean something else than a type, where a reference begins with it?
func isTaken(name string) bool {
	switch name {
	case "var", "local", "module", "output", "each", "count":
		return true
	}
	return false
}

// resourceTakes notes an attribute of a resource, if it may stand there.
func (r *reader) resourceTakes(res *api.Res, a api.Attr) bool {
	switch a.Name {
	case "id":
		return false
	case "count":
		res.Count = a.Expr
		return res.Each < 0
	case "for_each":
		res.Each = a.Expr
		return res.Count < 0
	case "depends_on":
		return r.depends(res, r.expr(a))
	}
	res.Attrs = append(res.Attrs, own(a))
	return true
}

// depends notes what a resource depends on, if that is a list of references.
func (r *reader) depends(res *api.Res, list api.Expr) bool {
	if list.Kind != api.XList {
		return false
	}
	for _, place := range list.Args {
		if !r.isReference(place) {
			return false
		}
		res.Deps = append(res.Deps, refs.Of(r.mod.File, place)...)
	}
	return true
}

func (r *reader) lifecycle(res *api.Res, b api.Block) {
	r.want(b.Type == "lifecycle" && len(b.Labels) == 0, api.ErrBlock, b.At)
	r.attrs(b, func(a api.Attr) bool {
		kind := r.expr(a).Kind
		switch a.Name {
		case "create_before_destroy":
			res.Swap = kind == api.XTrue
		case "prevent_destroy":
			res.Prevent = kind == api.XTrue
		default:
			return false
		}
		return kind == api.XTrue || kind == api.XFalse
	})
	r.noBlocks(b)
}

func (r *reader) call(b api.Block) {
	c := api.Call{Name: r.labels(b, 1)[0], At: b.At}
	source := ""
	r.attrs(b, func(a api.Attr) bool {
		if a.Name != "source" {
			c.Args = append(c.Args, own(a))
			return true
		}
		e := r.expr(a)
		source = e.Text
		return e.Kind == api.XText && isName(e.Text)
	})
	r.noBlocks(b)
	r.want(source != "", api.ErrBlock, b.At)
	twice := slices.ContainsFunc(r.mod.Calls, func(other api.Call) bool { return other.Name == c.Name })
	r.want(!twice, api.ErrTwice, b.At)
	r.mod.Calls = append(r.mod.Calls, c)
	r.sources = append(r.sources, source)
}

// checkArgs wants a call to have arguments for variables of its module, and one
// for each that has no default.
func (r *reader) checkArgs(c api.Call, vars []api.Var) {
	for _, a := range c.Args {
		r.want(hasVar(vars, a.Name), api.ErrName, a.At)
	}
	for _, v := range vars {
		r.want(v.Default >= 0 || hasAttr(c.Args, v.Name), api.ErrBlock, c.At)
	}
}

func hasVar(vars []api.Var, name string) bool {
	return slices.ContainsFunc(vars, func(v api.Var) bool { return v.Name == name })
}
