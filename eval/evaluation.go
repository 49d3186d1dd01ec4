package eval

import (
	"purlin/api"
	"purlin/funcs"
	"purlin/value"
)

// evaluation is one that goes on. It throws what is wrong, as a *api.Diag.
type evaluation struct {
	exprs []api.Expr
	names map[string]named
	steps int // those that have been taken
}

// named is the value of a name. Only one that is asked for must be good, and is
// gone through for that but once, however many items of a list ask for it.
type named struct {
	value api.Value
	good  bool // it was gone through
}

func namesOf(scope api.Value) map[string]named {
	names := map[string]named{}
	if scope.Kind != api.KObject {
		return names
	}
	for place := range min(len(scope.Keys), len(scope.Items)) {
		names[scope.Keys[place]] = named{value: scope.Items[place]}
	}
	return names
}

// eval answers the value of the expression at a place, which is a good one.
func (ev *evaluation) eval(place int) api.Value {
	e := ev.step(place)
	v, err := ev.says(e)
	if err != api.OK {
		panic(&api.Diag{Code: err, At: e.At})
	}
	return v
}

// step answers the expression at a place, whose step is the next one. No file
// that is parsed has a place that isn't one, but no call may break on that.
func (ev *evaluation) step(place int) api.Expr {
	if place < 0 || place >= len(ev.exprs) {
		panic(&api.Diag{Code: api.ErrIndex})
	}
	e := ev.exprs[place]
	if ev.steps == api.MaxSteps {
		panic(&api.Diag{Code: api.ErrLong, At: e.At})
	}
	ev.steps++
	return e
}

func (ev *evaluation) says(e api.Expr) (api.Value, api.Errno) {
	if len(e.Args) < partsOf(e.Kind) { // as in step: of no file that is parsed
		return api.Value{}, api.ErrIndex
	}
	switch e.Kind {
	case api.XNull:
		return value.Null(), api.OK
	case api.XTrue, api.XFalse:
		return value.Bool(e.Kind == api.XTrue), api.OK
	case api.XInt:
		return good(numberOf(e.Text))
	case api.XText:
		return good(value.Text(e.Text))
	case api.XName:
		return ev.name(e.Text)
	case api.XCond:
		return ev.chosen(e.Args)
	case api.XFor:
		return ev.each(e)
	}
	parts := make([]api.Value, len(e.Args))
	for i, arg := range e.Args {
		parts[i] = ev.eval(arg)
	}
	return ev.made(e, parts)
}

// partsOf answers how many parts each expression of a kind is made of; 0 of a
// kind of which each may have another number.
func partsOf(kind api.ExprKind) int {
	switch {
	case kind == api.XCond:
		return 3
	case kind == api.XIndex || kind == api.XFor || api.XAdd <= kind && kind <= api.XOr:
		return 2
	case kind == api.XAttr || kind == api.XSplat || kind == api.XNeg || kind == api.XNot:
		return 1
	}
	return 0
}

// made answers what an expression says whose parts say this.
func (ev *evaluation) made(e api.Expr, parts []api.Value) (api.Value, api.Errno) {
	switch e.Kind {
	case api.XTemplate:
		return ev.template(e.Args, parts)
	case api.XList:
		return listOf(parts)
	case api.XObject:
		return objectOf(e.Keys, parts)
	case api.XCall:
		return funcs.Call(e.Text, parts)
	case api.XAttr:
		return attr(parts[0], e.Text)
	case api.XSplat:
		return splat(parts[0], e.Text)
	case api.XIndex:
		return index(parts[0], parts[1])
	case api.XNeg:
		return negated(parts[0])
	case api.XNot:
		return inverted(parts[0])
	case api.XAdd, api.XSub, api.XMul, api.XDiv, api.XMod, api.XLt, api.XGt, api.XLe, api.XGe:
		return ofNumbers(e.Kind, parts[0], parts[1])
	case api.XEq, api.XNe:
		return held(parts[0], parts[1], e.Kind == api.XEq)
	case api.XAnd, api.XOr:
		return ofTruths(parts[0], parts[1], e.Kind == api.XOr)
	}
	return api.Value{}, api.ErrType
}

func (ev *evaluation) name(name string) (api.Value, api.Errno) {
	n, has := ev.names[name]
	if !has {
		return api.Value{}, api.ErrName
	}
	if !n.good {
		if !value.Good(n.value) {
			return api.Value{}, api.ErrLong
		}
		ev.names[name] = named{value: n.value, good: true}
	}
	return n.value, api.OK
}

// chosen evaluates the one branch that the first part asks for, if it does.
func (ev *evaluation) chosen(places []int) (api.Value, api.Errno) {
	first := ev.eval(places[0])
	switch {
	case !maybe(first, api.KBool):
		return api.Value{}, api.ErrType
	case isUnknown(first):
		return value.Unknown(), api.OK
	case first.Bool:
		return ev.eval(places[1]), api.OK
	}
	return ev.eval(places[2]), api.OK
}

// each has the name stand for one item of the list after the other. What it
// stands for outside is hidden meanwhile.
func (ev *evaluation) each(e api.Expr) (api.Value, api.Errno) {
	list := ev.eval(e.Args[0])
	switch {
	case !maybe(list, api.KList):
		return api.Value{}, api.ErrType
	case isUnknown(list):
		return value.Unknown(), api.OK
	}
	hidden, has := ev.names[e.Text]
	said := make([]api.Value, len(list.Items))
	for i, item := range list.Items {
		ev.names[e.Text] = named{value: item, good: true}
		said[i] = ev.eval(e.Args[1])
	}
	delete(ev.names, e.Text)
	if has {
		ev.names[e.Text] = hidden
	}
	return listOf(said)
}

// template looks at the parts' kinds here, not where each is evaluated: all of
// them come ahead.
func (ev *evaluation) template(places []int, parts []api.Value) (api.Value, api.Errno) {
	for i, part := range parts {
		if !maybe(part, api.KString) && part.Kind != api.KInt && part.Kind != api.KBool {
			panic(&api.Diag{Code: api.ErrType, At: ev.exprs[places[i]].At})
		}
	}
	return joined(parts)
}
