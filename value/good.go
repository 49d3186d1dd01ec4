package value

import (
	"purlin/api"
	"purlin/num"
)

// Good: is it a good one?
func Good(v api.Value) bool {
	room := api.MaxValues - 1
	return goodWithin(v, api.MaxDepth, &room)
}

// goodWithin wants at most so many values nested in one another, and room for
// all items. A list's items are counted ahead of the look at any of them: so
// the look ends soon, also at lists that have themselves within.
func goodWithin(v api.Value, depth int, room *int) bool {
	*room -= len(v.Items)
	if depth == 0 || *room < 0 || !goodAlone(v) {
		return false
	}
	for _, item := range v.Items {
		if !goodWithin(item, depth-1, room) {
			return false
		}
	}
	return true
}

// goodAlone: has it just what its kind needs, whatever its items are?
func goodAlone(v api.Value) bool {
	noText, noItems, noKeys := v.Text == "", len(v.Items) == 0, len(v.Keys) == 0
	if v.Bool && v.Kind != api.KBool {
		return false
	}
	switch v.Kind {
	case api.KNull, api.KUnknown, api.KBool:
		return noText && noItems && noKeys
	case api.KInt:
		return num.Good(v.Text) && noItems && noKeys
	case api.KString:
		return len(v.Text) <= api.MaxText && noItems && noKeys
	case api.KList:
		return noText && noKeys
	case api.KObject:
		return noText && len(v.Keys) == len(v.Items) && goodKeys(v.Keys)
	}
	return false
}

// goodKeys: is none too long, and each greater than the one ahead?
func goodKeys(keys []string) bool {
	for place, key := range keys {
		if len(key) > api.MaxText || place > 0 && key <= keys[place-1] {
			return false
		}
	}
	return true
}
