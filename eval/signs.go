package eval

import (
	"purlin/api"
	"purlin/num"
	"purlin/value"
)

// numberOf answers the value of a number's text.
func numberOf(text string) api.Value { return api.Value{Kind: api.KInt, Text: text} }

func negated(v api.Value) (api.Value, api.Errno) {
	return ofNumbers(api.XSub, value.Int(0), v)
}

func inverted(v api.Value) (api.Value, api.Errno) {
	switch {
	case !maybe(v, api.KBool):
		return api.Value{}, api.ErrType
	case isUnknown(v):
		return value.Unknown(), api.OK
	}
	return value.Bool(!v.Bool), api.OK
}

// ofNumbers answers for the signs that join two numbers.
func ofNumbers(kind api.ExprKind, a, b api.Value) (api.Value, api.Errno) {
	switch {
	case !maybe(a, api.KInt) || !maybe(b, api.KInt):
		return api.Value{}, api.ErrType
	case isUnknown(a) || isUnknown(b):
		return value.Unknown(), api.OK
	case api.XLt <= kind && kind <= api.XGe:
		return value.Bool(ordered(kind, num.Cmp(a.Text, b.Text))), api.OK
	}
	number, err := calculated(kind, a.Text, b.Text)
	if err != api.OK {
		return api.Value{}, err
	}
	return numberOf(number), api.OK
}

// ordered: does a sign say that two stand in this order?
func ordered(kind api.ExprKind, order int) bool {
	switch kind {
	case api.XLt:
		return order < 0
	case api.XGt:
		return order > 0
	case api.XLe:
		return order <= 0
	}
	return order >= 0
}

func calculated(kind api.ExprKind, a, b string) (string, api.Errno) {
	switch kind {
	case api.XAdd:
		return num.Add(a, b)
	case api.XSub:
		return num.Sub(a, b)
	case api.XMul:
		return num.Mul(a, b)
	}
	quotient, rest, err := num.Div(a, b)
	if kind == api.XDiv {
		return quotient, err
	}
	return rest, err
}

// held answers whether two values that are held against each other are the
// same, or, if that isn't what is wanted, whether they aren't.
func held(a, b api.Value, same bool) (api.Value, api.Errno) {
	if !value.Known(a) || !value.Known(b) {
		return value.Unknown(), api.OK
	}
	return value.Bool(value.Equal(a, b) == same), api.OK
}

// ofTruths answers for && and ||: one truth of the kind that decides is enough,
// whatever an unknown turns out to be.
func ofTruths(a, b api.Value, decides bool) (api.Value, api.Errno) {
	decided := value.Bool(decides)
	switch {
	case !maybe(a, api.KBool) || !maybe(b, api.KBool):
		return api.Value{}, api.ErrType
	case value.Equal(a, decided) || value.Equal(b, decided):
		return decided, api.OK
	case isUnknown(a) || isUnknown(b):
		return value.Unknown(), api.OK
	}
	return value.Bool(!decides), api.OK
}
