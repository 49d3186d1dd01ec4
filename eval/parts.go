package eval

import (
	"slices"
	"strconv"
	"strings"

	"purlin/api"
	"purlin/num"
	"purlin/value"
)

// good answers a value that is a good one, else ErrLong: what is made of good
// ones can be wrong in its greatness alone.
func good(v api.Value) (api.Value, api.Errno) {
	if !value.Good(v) {
		return api.Value{}, api.ErrLong
	}
	return v, api.OK
}

func isUnknown(v api.Value) bool { return v.Kind == api.KUnknown }

// maybe: is it of this kind, or may it turn out to be?
func maybe(v api.Value, kind api.Kind) bool { return v.Kind == kind || isUnknown(v) }

// listOf answers the list of these very items.
func listOf(items []api.Value) (api.Value, api.Errno) {
	return good(api.Value{Kind: api.KList, Items: items})
}

// objectOf asks first whether a list of the items would be good, as it is as
// great as the object: so none that is too great is copied.
func objectOf(keys []string, items []api.Value) (api.Value, api.Errno) {
	if _, err := listOf(items); err != api.OK {
		return api.Value{}, err
	}
	return value.Object(keys, items)
}

// joined puts together texts, numbers, truths and unknowns.
func joined(parts []api.Value) (api.Value, api.Errno) {
	if slices.ContainsFunc(parts, isUnknown) {
		return value.Unknown(), api.OK
	}
	var text strings.Builder
	for _, part := range parts {
		if part.Kind == api.KBool {
			text.WriteString(strconv.FormatBool(part.Bool))
		}
		text.WriteString(part.Text)
	}
	return good(value.Text(text.String()))
}

func attr(v api.Value, key string) (api.Value, api.Errno) {
	switch {
	case !maybe(v, api.KObject):
		return api.Value{}, api.ErrType
	case isUnknown(v):
		return value.Unknown(), api.OK
	}
	return itemOf(v, key)
}

func splat(v api.Value, key string) (api.Value, api.Errno) {
	switch {
	case !maybe(v, api.KList):
		return api.Value{}, api.ErrType
	case isUnknown(v):
		return value.Unknown(), api.OK
	}
	said := make([]api.Value, len(v.Items))
	for i, item := range v.Items {
		one, err := attr(item, key)
		if err != api.OK {
			return api.Value{}, err
		}
		said[i] = one
	}
	return listOf(said)
}

func index(v, at api.Value) (api.Value, api.Errno) {
	numbered := maybe(v, api.KList) && maybe(at, api.KInt)
	keyed := maybe(v, api.KObject) && maybe(at, api.KString)
	switch {
	case !numbered && !keyed:
		return api.Value{}, api.ErrType
	case isUnknown(v) || isUnknown(at):
		return value.Unknown(), api.OK
	case numbered:
		return itemAt(v, at.Text)
	}
	return itemOf(v, at.Text)
}

func itemAt(list api.Value, number string) (api.Value, api.Errno) {
	place, fits := num.Int(number)
	if !fits || place < 0 || place >= len(list.Items) {
		return api.Value{}, api.ErrIndex
	}
	return list.Items[place], api.OK
}

// itemOf answers the object's own item, where value.Get would copy it.
func itemOf(object api.Value, key string) (api.Value, api.Errno) {
	place, has := slices.BinarySearch(object.Keys, key)
	if !has {
		return api.Value{}, api.ErrIndex
	}
	return object.Items[place], api.OK
}
