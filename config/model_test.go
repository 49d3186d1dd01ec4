package config

import (
	"regexp"
	"slices"
	"strings"

	"purlin/api"
	"purlin/syntax"
)

// fault: something that is wrong. Of several the one with the least key comes first.
type fault struct {
	key  []int
	diag api.Diag
}

// model goes through files as if nothing were wrong, by the chapter's table; it notes all that is, and picks what comes first at the end.
type model struct {
	files  map[string]string
	faults []fault
	mods   []modelMod
}

// modelMod: a module, and the call that it is of: its key, and what is wrong if it is one too many.
type modelMod struct {
	key  []int
	mod  api.Mod
	many api.Diag
}

// under answers a key within another.
func under(key []int, more ...int) []int { return append(slices.Clone(key), more...) }

func (m *model) fault(key []int, code api.Errno, file string, at int) {
	m.faults = append(m.faults, fault{key, api.Diag{Code: code, File: file, At: at}})
}

// row: one of the chapter's table. What is asked of an attribute is told by its name; of all others by that of the empty name, if they may stand there.
type row struct {
	labels int
	attrs  map[string]string
	needs  string
	blocks string
}

func table() map[string]row {
	return map[string]row{
		"variable":  {1, map[string]string{"default": "any"}, "", ""},
		"locals":    {0, map[string]string{"": "any"}, "", ""},
		"output":    {1, map[string]string{"value": "any"}, "value", ""},
		"resource":  {2, map[string]string{"": "any", "id": "none", "depends_on": "references"}, "", "lifecycle"},
		"module":    {1, map[string]string{"": "any", "source": "name"}, "source", ""},
		"lifecycle": {0, map[string]string{"create_before_destroy": "truth", "prevent_destroy": "truth"}, "", ""},
	}
}

var (
	nameForm = regexp.MustCompile(`^[A-Za-z_][A-Za-z0-9_-]{0,31}$`)
	typeForm = regexp.MustCompile(`^(var|local|module|output|each|count)$`)
)

// reference answers what the expression at a place refers to, if it is a reference.
func reference(f api.File, place int) string {
	e := f.Exprs[place]
	switch e.Kind {
	case api.XName:
		return e.Text
	case api.XAttr:
		if upon := reference(f, e.Args[0]); upon != "" {
			return upon + "." + e.Text
		}
	}
	return ""
}

func references(f api.File, list api.Expr) []string {
	var all []string
	for _, place := range list.Args {
		all = append(all, reference(f, place))
	}
	return all
}

// fits: is an attribute what is asked?
func fits(asked string, f api.File, a api.Attr) bool {
	e := f.Exprs[a.Expr]
	switch asked {
	case "any":
		return true
	case "truth":
		return e.Kind == api.XTrue || e.Kind == api.XFalse
	case "name":
		return e.Kind == api.XText && nameForm.MatchString(e.Text)
	case "references":
		return e.Kind == api.XList && !slices.Contains(references(f, e), "")
	}
	return false
}

// named answers the places of those attributes that have one of these names.
func named(attrs []api.Attr, names ...string) []int {
	var places []int
	for i, a := range attrs {
		if slices.Contains(names, a.Name) {
			places = append(places, i)
		}
	}
	return places
}

// attrs notes what is wrong with a block's attributes, and that it lacks one.
func (m *model) attrs(key []int, path string, f api.File, b api.Block, r row) {
	for i, a := range b.Attrs {
		if len(named(b.Attrs[:i], a.Name)) > 0 {
			m.fault(under(key, 1, i, 0), api.ErrTwice, path, a.At)
		}
		asked, has := r.attrs[a.Name]
		if !has {
			asked = r.attrs[""]
		}
		if !fits(asked, f, a) {
			m.fault(under(key, 1, i, 1), api.ErrBlock, path, a.At)
		}
	}
	if both := named(b.Attrs, "count", "for_each"); r.blocks != "" && len(named(b.Attrs, "count"))*len(named(b.Attrs, "for_each")) > 0 {
		for _, i := range both {
			if i > 0 && b.Attrs[i].Name != b.Attrs[both[0]].Name {
				m.fault(under(key, 1, i, 1), api.ErrBlock, path, b.Attrs[i].At)
			}
		}
	}
	if r.needs != "" && len(named(b.Attrs, r.needs)) == 0 {
		m.fault(under(key, 3), api.ErrBlock, path, b.At)
	}
}

// block notes what is wrong with a block by itself.
func (m *model) block(key []int, path string, f api.File, b api.Block) {
	r, has := table()[b.Type]
	bad := slices.ContainsFunc(b.Labels, func(label string) bool { return !nameForm.MatchString(label) })
	if !has || len(b.Labels) != r.labels || bad || r.blocks != "" && typeForm.MatchString(b.Labels[0]) {
		m.fault(under(key, 0), api.ErrBlock, path, b.At)
	}
	m.attrs(key, path, f, b, r)
	for j, place := range b.Blocks {
		within := f.Blocks[place]
		if j > 0 && within.Type == "lifecycle" {
			m.fault(under(key, 2, j, 0), api.ErrTwice, path, within.At)
		}
		if r.blocks == "" || within.Type != r.blocks {
			m.fault(under(key, 2, j, 0), api.ErrBlock, path, within.At)
		}
		m.block(under(key, 2, j, 1), path, f, within)
	}
}

// twice notes what outmost blocks declare that is declared ahead of them.
func (m *model) twice(key []int, path string, f api.File) {
	declared := map[string]bool{}
	for k, place := range f.Top {
		b := f.Blocks[place]
		for i, a := range b.Attrs {
			if b.Type == "locals" && declared["local "+a.Name] {
				m.fault(under(key, 2, k, 1, i, 0), api.ErrTwice, path, a.At)
			}
			declared["local "+a.Name] = declared["local "+a.Name] || b.Type == "locals"
		}
		name := b.Type + " " + strings.Join(b.Labels, " ")
		if b.Type != "locals" && declared[name] {
			m.fault(under(key, 2, k, 4), api.ErrTwice, path, b.At)
		}
		declared[name] = true
	}
}

// module notes what is wrong with a module, and with those that it has. It answers its variables.
func (m *model) module(dir string, depth int, key []int, many api.Diag) []api.Var {
	place := len(m.mods)
	m.mods = append(m.mods, modelMod{key: key, many: many})
	path := dir + "main.hcl"
	text, there := m.files[path]
	if !there {
		m.fault(under(key, 1), api.ErrModule, path, 0)
		return nil
	}
	f, wrong := syntax.Parse(text)
	if wrong != nil {
		m.fault(under(key, 1), wrong.Code, path, wrong.At)
		return nil
	}
	for k, top := range f.Top {
		b := f.Blocks[top]
		if b.Type == "lifecycle" {
			m.fault(under(key, 2, k, 0), api.ErrBlock, path, b.At)
		}
		m.block(under(key, 2, k), path, f, b)
	}
	m.twice(key, path, f)
	mod := declares(dir, f)
	for i := range mod.Calls {
		source := f.Exprs[mod.Calls[i].Mod].Text
		mod.Calls[i].Mod = len(m.mods)
		m.call(under(key, 3, i), path, mod.Calls[i], dir+source+"/", depth+1)
	}
	m.mods[place].mod = mod
	return mod.Vars
}

// call notes what is wrong with a call.
func (m *model) call(key []int, path string, c api.Call, dir string, depth int) {
	many := api.Diag{Code: api.ErrModule, File: path, At: c.At}
	if depth > api.MaxModules {
		m.fault(under(key, 0), many.Code, path, c.At)
	}
	vars := m.module(dir, depth, under(key, 1), many)
	for i, a := range c.Args {
		if !slices.ContainsFunc(vars, func(v api.Var) bool { return v.Name == a.Name }) {
			m.fault(under(key, 2, i), api.ErrName, path, a.At)
		}
	}
	for _, v := range vars {
		if v.Default == -1 && len(named(c.Args, v.Name)) == 0 {
			m.fault(under(key, 3), api.ErrBlock, path, c.At)
		}
	}
}

// loaded answers what Load is to answer.
func (m *model) loaded(dir string) (api.Config, *api.Diag) {
	m.module(dir, 0, nil, api.Diag{})
	slices.SortStableFunc(m.mods, func(a, b modelMod) int { return slices.Compare(a.key, b.key) })
	for _, mod := range m.mods[min(len(m.mods), api.MaxMods):] {
		m.faults = append(m.faults, fault{mod.key, mod.many})
	}
	if len(m.faults) > 0 {
		first := slices.MinFunc(m.faults, func(a, b fault) int { return slices.Compare(a.key, b.key) })
		return api.Config{}, &first.diag
	}
	var c api.Config
	for _, mod := range m.mods {
		c.Mods = append(c.Mods, mod.mod)
	}
	return c, nil
}
