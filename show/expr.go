package show

import "purlin/api"

// signs has those that join two expressions, in the order of their kinds, the
// first of which is XAdd.
var signs = [...]string{"+", "-", "*", "/", "%", "==", "!=", "<", ">", "<=", ">=", "&&", "||"}

// at answers the expression at a place, or one of no kind, which has no text.
func (w *writer) at(place int) api.Expr {
	if w.may(place, len(w.file.Exprs)) {
		return w.file.Exprs[place]
	}
	return api.Expr{}
}

func (w *writer) expr(place int) {
	e := w.at(place)
	switch e.Kind {
	case api.XNull:
		w.put("null")
	case api.XTrue:
		w.put("true")
	case api.XFalse:
		w.put("false")
	case api.XInt, api.XName:
		w.put(e.Text)
	case api.XText:
		w.quoted(e.Text)
	case api.XTemplate:
		w.template(e)
	case api.XList:
		w.listed("[", e, "]")
	case api.XObject:
		w.listed("{", e, "}")
	case api.XCall:
		w.listed(e.Text+"(", e, ")")
	case api.XAttr:
		w.between(e.Args, "(", ")."+e.Text)
	case api.XIndex:
		w.between(e.Args, "(", ")[", "]")
	case api.XSplat:
		w.between(e.Args, "(", ")[*]."+e.Text)
	case api.XNeg:
		w.between(e.Args, "(-", ")")
	case api.XNot:
		w.between(e.Args, "(!", ")")
	case api.XCond:
		w.between(e.Args, "(", " ? ", " : ", ")")
	case api.XFor:
		w.between(e.Args, "[for "+e.Text+" in ", " : ", "]")
	default:
		w.joined(e)
	}
}

func (w *writer) joined(e api.Expr) {
	if e.Kind >= api.XAdd && e.Kind <= api.XOr {
		w.between(e.Args, "(", " "+signs[e.Kind-api.XAdd]+" ", ")")
	}
}

// between writes texts, and an argument between each two.
func (w *writer) between(args []int, texts ...string) {
	for i, text := range texts {
		if i > 0 && i <= len(args) {
			w.expr(args[i-1])
		}
		w.put(text)
	}
}

// listed writes the arguments between two brackets, each behind its key if it
// has one.
func (w *writer) listed(begin string, e api.Expr, end string) {
	w.put(begin)
	for i, arg := range e.Args {
		if i > 0 {
			w.put(", ")
		}
		if i < len(e.Keys) {
			w.quoted(e.Keys[i])
			w.put(" = ")
		}
		w.expr(arg)
	}
	w.put(end)
}
