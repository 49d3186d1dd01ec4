package eval

import (
	"fmt"
	"maps"
	"math/big"
	"slices"
	"testing"

	"purlin/api"
	"purlin/funcs"
	"purlin/value"
)

// The model has values of another make: nil, secret{}, bool, *big.Int, string, []any, map[string]any.

// secret is an unknown.
type secret struct{}

// bound is a name, ahead of those that it may hide.
type bound struct {
	name  string
	v     any
	outer *bound
}

// model evaluates otherwise than the package does, to be held beside it: what is wrong is answered, names are chained, and each value is measured.
type model struct {
	exprs []api.Expr
	steps int
}

func anyOf(v api.Value) any {
	switch v.Kind {
	case api.KUnknown:
		return secret{}
	case api.KBool:
		return v.Bool
	case api.KInt:
		n, _ := new(big.Int).SetString(v.Text, 10)
		return n
	case api.KString:
		return v.Text
	case api.KList:
		list := []any{}
		for _, item := range v.Items {
			list = append(list, anyOf(item))
		}
		return list
	case api.KObject:
		object := map[string]any{}
		for i, key := range v.Keys {
			object[key] = anyOf(v.Items[i])
		}
		return object
	}
	return nil
}

func valueOfAny(v any) api.Value {
	switch x := v.(type) {
	case secret:
		return value.Unknown()
	case bool:
		return value.Bool(x)
	case *big.Int:
		return api.Value{Kind: api.KInt, Text: x.String()}
	case string:
		return value.Text(x)
	case []any:
		list := value.List()
		for _, item := range x {
			list.Items = append(list.Items, valueOfAny(item))
		}
		return list
	case map[string]any:
		object := api.Value{Kind: api.KObject, Keys: slices.Sorted(maps.Keys(x))}
		for _, key := range object.Keys {
			object.Items = append(object.Items, valueOfAny(x[key]))
		}
		return object
	}
	return value.Null()
}

// measure answers a value's size and depth, and whether no number and no text in it is too long.
func measure(v any) (size, depth int, short bool) {
	items, short := []any{}, true
	switch x := v.(type) {
	case *big.Int:
		short = len(new(big.Int).Abs(x).String()) <= api.MaxDigits
	case string:
		short = len(x) <= api.MaxText
	case []any:
		items = x
	case map[string]any:
		items = slices.Collect(maps.Values(x))
	}
	size = 1
	for _, item := range items {
		s, d, ok := measure(item)
		size, depth, short = size+s, max(depth, d), short && ok
	}
	return size, depth + 1, short
}

// eval answers an expression's value, or the code of what is wrong and where.
func (m *model) eval(place int, names *bound) (any, api.Errno, int) {
	e := m.exprs[place]
	if m.steps++; m.steps > api.MaxSteps {
		return nil, api.ErrLong, e.At
	}
	v, code, at := m.says(e, names)
	if code != api.OK {
		return nil, code, at
	}
	if size, depth, short := measure(v); size > api.MaxValues || depth > api.MaxDepth || !short {
		return nil, api.ErrLong, e.At
	}
	return v, api.OK, 0
}

func (m *model) says(e api.Expr, names *bound) (any, api.Errno, int) {
	parts := []any{}
	first := len(e.Args)
	if e.Kind == api.XCond || e.Kind == api.XFor {
		first = 1
	}
	for _, arg := range e.Args[:first] {
		part, code, at := m.eval(arg, names)
		if code != api.OK {
			return nil, code, at
		}
		parts = append(parts, part)
	}
	if truth, ok := append(parts, nil)[0].(bool); ok && e.Kind == api.XCond {
		if truth {
			return m.eval(e.Args[1], names)
		}
		return m.eval(e.Args[2], names)
	}
	if list, ok := append(parts, nil)[0].([]any); ok && e.Kind == api.XFor {
		said := []any{}
		for _, item := range list {
			one, code, at := m.eval(e.Args[1], &bound{e.Text, item, names})
			if code != api.OK {
				return nil, code, at
			}
			said = append(said, one)
		}
		return said, api.OK, 0
	}
	for i, part := range parts {
		if _, isSecret := part.(secret); e.Kind == api.XTemplate && !isSecret && textOf(part) == nil {
			return nil, api.ErrType, m.exprs[e.Args[i]].At
		}
	}
	v, code := modelSays(e, parts, names)
	return v, code, e.At
}

// textOf answers what a template has of a part, or nil.
func textOf(part any) any {
	switch part.(type) {
	case bool, *big.Int, string:
		return fmt.Sprint(part)
	}
	return nil
}

// modelSays answers for what is made of parts that are all there.
func modelSays(e api.Expr, parts []any, names *bound) (any, api.Errno) {
	switch e.Kind {
	case api.XNull:
		return nil, api.OK
	case api.XTrue, api.XFalse:
		return e.Kind == api.XTrue, api.OK
	case api.XInt:
		n, _ := new(big.Int).SetString(e.Text, 10)
		return n, api.OK
	case api.XText:
		return e.Text, api.OK
	case api.XName:
		for ; names != nil; names = names.outer {
			if names.name == e.Text {
				return names.v, api.OK
			}
		}
		return nil, api.ErrName
	case api.XTemplate:
		text := ""
		if slices.ContainsFunc(parts, isSecret) {
			return secret{}, api.OK
		}
		for _, part := range parts {
			text += textOf(part).(string)
		}
		return text, api.OK
	case api.XList:
		return parts, api.OK
	case api.XObject:
		object := map[string]any{}
		for i, key := range e.Keys {
			object[key] = parts[i]
		}
		return object, api.OK
	case api.XCall:
		answer, code := funcs.Call(e.Text, valueOfAny(parts).Items)
		return anyOf(answer), code
	case api.XEq, api.XNe:
		a, b := valueOfAny(parts[0]), valueOfAny(parts[1])
		if !value.Known(a) || !value.Known(b) {
			return secret{}, api.OK
		}
		return value.Equal(a, b) == (e.Kind == api.XEq), api.OK
	case api.XAttr, api.XSplat, api.XIndex:
		return modelWithin(e, parts)
	}
	return modelSign(e.Kind, parts)
}

func isSecret(v any) bool { return v == any(secret{}) }

// modelWithin answers for what is taken out of another value.
func modelWithin(e api.Expr, parts []any) (any, api.Errno) {
	list, isList := parts[0].([]any)
	object, isObject := parts[0].(map[string]any)
	var key any = e.Text
	if e.Kind == api.XIndex {
		key = parts[1]
	}
	number, isNumber := key.(*big.Int)
	text, isText := key.(string)
	switch {
	case e.Kind == api.XSplat && isList:
		said := []any{}
		for _, item := range list {
			one, code := modelWithin(api.Expr{Kind: api.XAttr, Text: e.Text}, []any{item})
			if code != api.OK {
				return nil, code
			}
			said = append(said, one)
		}
		return said, api.OK
	case e.Kind == api.XSplat && isObject, e.Kind == api.XAttr && isList:
		return nil, api.ErrType
	case isSecret(parts[0]) && (isNumber || isText || isSecret(key)), (isList || isObject) && isSecret(key):
		return secret{}, api.OK
	case isList && isNumber:
		for i, item := range list {
			if number.Cmp(big.NewInt(int64(i))) == 0 {
				return item, api.OK
			}
		}
		return nil, api.ErrIndex
	case isObject && isText:
		item, has := object[text]
		if !has {
			return nil, api.ErrIndex
		}
		return item, api.OK
	}
	return nil, api.ErrType
}

// modelSign answers for the signs of numbers and of truths; and for XCond and XFor, where what they hang on is neither a truth nor a list.
func modelSign(kind api.ExprKind, parts []any) (any, api.Errno) {
	secrets, wrong := 0, 0
	truths, numbers := []bool{}, []*big.Int{}
	for _, part := range parts {
		truth, isTruth := part.(bool)
		number, isNumber := part.(*big.Int)
		switch ofTruths := kind == api.XNot || kind == api.XAnd || kind == api.XOr; {
		case isSecret(part):
			secrets++
		case isTruth && ofTruths:
			truths = append(truths, truth)
		case isNumber && !ofTruths && kind < api.XCond:
			numbers = append(numbers, number)
		default:
			wrong++
		}
	}
	switch {
	case wrong > 0:
		return nil, api.ErrType
	case kind == api.XAnd && slices.Contains(truths, false), kind == api.XOr && slices.Contains(truths, true):
		return kind == api.XOr, api.OK
	case secrets > 0:
		return secret{}, api.OK
	case kind == api.XNot:
		return !truths[0], api.OK
	case kind == api.XAnd || kind == api.XOr:
		return kind == api.XAnd, api.OK
	case kind == api.XNeg:
		return new(big.Int).Neg(numbers[0]), api.OK
	case (kind == api.XDiv || kind == api.XMod) && numbers[1].Sign() == 0:
		return nil, api.ErrZero
	}
	a, b := numbers[0], numbers[1]
	return map[api.ExprKind]func() any{
		api.XAdd: func() any { return new(big.Int).Add(a, b) },
		api.XSub: func() any { return new(big.Int).Sub(a, b) },
		api.XMul: func() any { return new(big.Int).Mul(a, b) },
		api.XDiv: func() any { return new(big.Int).Quo(a, b) },
		api.XMod: func() any { return new(big.Int).Rem(a, b) },
		api.XLt:  func() any { return a.Cmp(b) < 0 },
		api.XGt:  func() any { return a.Cmp(b) > 0 },
		api.XLe:  func() any { return a.Cmp(b) <= 0 },
		api.XGe:  func() any { return a.Cmp(b) >= 0 },
	}[kind](), api.OK
}

// boundIn answers the names of a scope.
func boundIn(scope api.Value) *bound {
	var names *bound
	for i, key := range scope.Keys {
		names = &bound{key, anyOf(scope.Items[i]), names}
	}
	return names
}

// modelEval answers what Eval should.
func modelEval(f api.File, place int, names *bound) (api.Value, *api.Diag) {
	m := model{exprs: f.Exprs}
	v, code, at := m.eval(place, names)
	if code != api.OK {
		return api.Value{}, &api.Diag{Code: code, At: at}
	}
	return valueOfAny(v), nil
}

func sameDiag(a, b *api.Diag) bool {
	return a == nil && b == nil || a != nil && b != nil && *a == *b
}

// TestPicked holds Eval beside the model, of expressions as they are picked: of each, all that it is made of, too.
func TestPicked(t *testing.T) {
	scope := pickedScope(t)
	names := boundIn(scope)
	counts := map[string]int{}
	for _, text := range pickedTexts(1, 20000) {
		f, last := parsed(t, text)
		for place := range last + 1 {
			want, wantWrong := modelEval(f, place, names)
			got, wrong := Eval(f, place, scope)
			if !sameDiag(wrong, wantWrong) || !value.Good(got) || !value.Equal(got, want) {
				t.Fatalf("P8.1: the expression %d of %s: %s, %v, want %s, %v", place, text, shown(got), wrong, shown(want), wantWrong)
			}
			switch {
			case place < last:
			case wrong != nil:
				counts[wrong.Code.Error()]++
			case value.Known(got):
				counts["known"]++
			default:
				counts["unknown"]++
			}
		}
	}
	for _, code := range []api.Errno{api.ErrLong, api.ErrZero, api.ErrFunc, api.ErrArgs, api.ErrName, api.ErrType, api.ErrIndex} {
		if counts[code.Error()] < 50 {
			t.Errorf("the picked expressions tell too little of the error %d: %v", code, counts)
		}
	}
	if counts["known"] < 5000 || counts["unknown"] < 2000 {
		t.Errorf("the picked expressions tell too little: %v", counts)
	}
}
