package funcs

import (
	"maps"
	"slices"

	"purlin/api"
	"purlin/value"
)

// listOf answers the list of these very items.
func listOf(items []api.Value) api.Value { return api.Value{Kind: api.KList, Items: items} }

// textList answers a list of texts.
func textList(texts []string) api.Value {
	var items []api.Value
	for _, text := range texts {
		items = append(items, value.Text(text))
	}
	return listOf(items)
}

func length(args []api.Value) (api.Value, api.Errno) {
	if isText(args[0]) {
		return value.Int(len(runesOf(args[0].Text))), api.OK
	}
	return value.Int(len(args[0].Items)), api.OK
}

func reverse(args []api.Value) (api.Value, api.Errno) {
	if isText(args[0]) {
		return value.Text(reversed(args[0].Text)), api.OK
	}
	items := slices.Clone(args[0].Items)
	slices.Reverse(items)
	return listOf(items), api.OK
}

func concat(args []api.Value) (api.Value, api.Errno) {
	var items []api.Value
	for _, list := range args {
		items = append(items, list.Items...)
		if len(items) >= api.MaxValues { // with the list itself too many; the rest might be thousands of times as many
			return api.Value{}, api.ErrLong
		}
	}
	return listOf(items), api.OK
}

func contains(args []api.Value) (api.Value, api.Errno) {
	same := func(item api.Value) bool { return value.Equal(item, args[1]) }
	return value.Bool(slices.ContainsFunc(args[0].Items, same)), api.OK
}

func keysOf(args []api.Value) (api.Value, api.Errno) { return textList(args[0].Keys), api.OK }

func valuesOf(args []api.Value) (api.Value, api.Errno) { return listOf(args[0].Items), api.OK }

func lookup(args []api.Value) (api.Value, api.Errno) {
	if item, has := value.Get(args[0], args[1].Text); has {
		return item, api.OK
	}
	return args[2], api.OK
}

func merge(args []api.Value) (api.Value, api.Errno) {
	items := map[string]api.Value{}
	for _, object := range args {
		for place, key := range object.Keys {
			items[key] = object.Items[place]
		}
		if len(items) >= api.MaxValues { // as in concat
			return api.Value{}, api.ErrLong
		}
	}
	merged := api.Value{Kind: api.KObject, Keys: slices.Sorted(maps.Keys(items))}
	for _, key := range merged.Keys {
		merged.Items = append(merged.Items, items[key])
	}
	return merged, api.OK
}
