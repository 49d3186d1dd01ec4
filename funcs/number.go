package funcs

import (
	"slices"
	"strings"

	"purlin/api"
	"purlin/num"
	"purlin/value"
)

// numberOf answers the value of a number's text.
func numberOf(text string) api.Value { return api.Value{Kind: api.KInt, Text: text} }

func greatest(args []api.Value) (api.Value, api.Errno) {
	return slices.MaxFunc(args, value.Cmp), api.OK
}

func least(args []api.Value) (api.Value, api.Errno) {
	return slices.MinFunc(args, value.Cmp), api.OK
}

func absolute(args []api.Value) (api.Value, api.Errno) {
	return numberOf(strings.TrimPrefix(args[0].Text, "-")), api.OK
}

func numbersBelow(args []api.Value) (api.Value, api.Errno) {
	bound := args[0].Text
	if num.Cmp(bound, "0") < 0 || num.Cmp(bound, num.Of(api.MaxCount)) > 0 {
		return api.Value{}, api.ErrArgs
	}
	count, _ := num.Int(bound)
	var items []api.Value
	for n := range count {
		items = append(items, value.Int(n))
	}
	return listOf(items), api.OK
}

func toNumber(args []api.Value) (api.Value, api.Errno) {
	if !num.Good(args[0].Text) {
		return api.Value{}, api.ErrArgs
	}
	return numberOf(args[0].Text), api.OK
}
