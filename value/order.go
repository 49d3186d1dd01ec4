package value

import (
	"cmp"
	"slices"
	"strings"

	"purlin/api"
	"purlin/num"
)

// Equal: are they the same?
func Equal(a, b api.Value) bool { return Cmp(a, b) == 0 }

// Cmp: -1, 0 or 1, by the order.
func Cmp(a, b api.Value) int {
	if a.Kind != b.Kind {
		return cmp.Compare(a.Kind, b.Kind)
	}
	switch a.Kind {
	case api.KBool:
		return compareTruths(a.Bool, b.Bool)
	case api.KInt:
		return num.Cmp(a.Text, b.Text)
	case api.KString:
		return strings.Compare(a.Text, b.Text)
	case api.KList:
		return slices.CompareFunc(a.Items, b.Items, Cmp)
	case api.KObject:
		return compareObjects(a, b)
	}
	return 0
}

// compareObjects asks the items only where no key differs: all keys come ahead of all items.
func compareObjects(a, b api.Value) int {
	if order := slices.Compare(a.Keys, b.Keys); order != 0 {
		return order
	}
	return slices.CompareFunc(a.Items, b.Items, Cmp)
}

func compareTruths(a, b bool) int {
	switch {
	case a == b:
		return 0
	case b:
		return -1
	}
	return 1
}

// placesInOrder answers the keys' places, the least key's first.
func placesInOrder(keys []string) []int {
	places := make([]int, len(keys))
	for place := range keys {
		places[place] = place
	}
	slices.SortFunc(places, func(a, b int) int { return strings.Compare(keys[a], keys[b]) })
	return places
}
