package value

import (
	"strings"
	"testing"

	"purlin/api"
)

// fullText has as many bytes as a text may have.
var fullText = strings.Repeat("x", api.MaxText)

// nested answers inner, within so many lists.
func nested(lists int, inner api.Value) api.Value {
	for range lists {
		inner = api.Value{Kind: api.KList, Items: []api.Value{inner}}
	}
	return inner
}

// nulls answers a list of so many.
func nulls(n int) api.Value { return api.Value{Kind: api.KList, Items: make([]api.Value, n)} }

// manyKeys answers an object of so many keys.
func manyKeys(n int) api.Value {
	v := api.Value{Kind: api.KObject, Items: make([]api.Value, n)}
	for i := range n {
		v.Keys = append(v.Keys, string([]byte{byte(i >> 8), byte(i)}))
	}
	return v
}

// raw answers an object as it is told, in order or not.
func raw(keys []string, items ...api.Value) api.Value {
	return api.Value{Kind: api.KObject, Keys: keys, Items: items}
}

func goodValues() map[string]api.Value {
	nines := strings.Repeat("9", api.MaxDigits)
	return map[string]api.Value{
		"null":                    {Kind: api.KNull},
		"unknown":                 {Kind: api.KUnknown},
		"false":                   {Kind: api.KBool},
		"true":                    {Kind: api.KBool, Bool: true},
		"0":                       {Kind: api.KInt, Text: "0"},
		"-12":                     {Kind: api.KInt, Text: "-12"},
		"a number of 100 digits":  {Kind: api.KInt, Text: nines},
		"such a one below 0":      {Kind: api.KInt, Text: "-" + nines},
		"an empty text":           {Kind: api.KString},
		"a text that looks so":    {Kind: api.KString, Text: "01"},
		"a text that is no UTF-8": {Kind: api.KString, Text: "\xff\x00\xed\xa0\x80"},
		"a full text":             {Kind: api.KString, Text: fullText},
		"a list, nil":             {Kind: api.KList},
		"a list, empty":           {Kind: api.KList, Items: []api.Value{}, Keys: []string{}},
		"a list of all kinds":     {Kind: api.KList, Items: []api.Value{{}, {Kind: api.KUnknown}, {Kind: api.KBool, Bool: true}, {Kind: api.KInt, Text: "5"}, {Kind: api.KString, Text: "x"}, {Kind: api.KList}, {Kind: api.KObject}}},
		"an object, nil":          {Kind: api.KObject},
		"an object, empty":        {Kind: api.KObject, Items: []api.Value{}, Keys: []string{}},
		"an empty key":            raw([]string{""}, api.Value{}),
		"an empty key, another":   raw([]string{"", "\x00"}, api.Value{}, api.Value{}),
		"keys by bytes":           raw([]string{"", "10", "2", "Z", "a", "a\x00", "aa", "\u00e9", "\uffff", "\U00010000", "\xff", "\xff\x00"}, make([]api.Value, 12)...),
		"a full key":              raw([]string{fullText}, api.Value{}),
		"two full keys":           raw([]string{fullText[1:] + "w", fullText}, api.Value{}, api.Value{}),
		"empty lists where none":  {Kind: api.KInt, Text: "7", Items: []api.Value{}, Keys: []string{}},
		"empty lists in a null":   {Items: []api.Value{}, Keys: []string{}},
		"1999 in a list":          nulls(api.MaxValues - 1),
		"1999 in an object":       manyKeys(api.MaxValues - 1),
		"2000, in two lists":      {Kind: api.KList, Items: []api.Value{nulls(997), nulls(1000)}},
		"2000, deep":              nested(20, nulls(api.MaxValues-21)),
		"a depth of 24":           nested(api.MaxDepth-1, api.Value{}),
		"a depth of 24, empty":    nested(api.MaxDepth-1, api.Value{Kind: api.KObject}),
		"a depth of 24, beside":   {Kind: api.KList, Items: []api.Value{{}, nested(api.MaxDepth-2, api.Value{}), {}}},
	}
}

// wrongAlone are values that aren't good, whatever they stand in.
func wrongAlone() map[string]api.Value {
	item := []api.Value{{}}
	key := []string{"a"}
	return map[string]api.Value{
		"kind 7":                     {Kind: 7},
		"kind -1":                    {Kind: -1},
		"a great kind":               {Kind: 1 << 62},
		"kind 7, empty":              {Kind: 7, Items: []api.Value{}},
		"a null with a truth":        {Kind: api.KNull, Bool: true},
		"a null with a text":         {Kind: api.KNull, Text: "x"},
		"a null with an item":        {Kind: api.KNull, Items: item},
		"a null with a key":          {Kind: api.KNull, Keys: key},
		"a null with both":           {Kind: api.KNull, Keys: key, Items: item},
		"an unknown with a truth":    {Kind: api.KUnknown, Bool: true},
		"an unknown with a text":     {Kind: api.KUnknown, Text: "x"},
		"an unknown with an item":    {Kind: api.KUnknown, Items: item},
		"an unknown with a key":      {Kind: api.KUnknown, Keys: key},
		"a truth with a text":        {Kind: api.KBool, Bool: true, Text: "true"},
		"a truth with an item":       {Kind: api.KBool, Items: item},
		"a truth with a key":         {Kind: api.KBool, Keys: key},
		"a number with a truth":      {Kind: api.KInt, Text: "1", Bool: true},
		"a number with an item":      {Kind: api.KInt, Text: "1", Items: item},
		"a number with a key":        {Kind: api.KInt, Text: "1", Keys: key},
		"a number without a text":    {Kind: api.KInt},
		"01":                         {Kind: api.KInt, Text: "01"},
		"-0":                         {Kind: api.KInt, Text: "-0"},
		"+1":                         {Kind: api.KInt, Text: "+1"},
		"1.5":                        {Kind: api.KInt, Text: "1.5"},
		"a number of 101 digits":     {Kind: api.KInt, Text: strings.Repeat("9", api.MaxDigits+1)},
		"a text with a truth":        {Kind: api.KString, Text: "x", Bool: true},
		"a text with an item":        {Kind: api.KString, Text: "x", Items: item},
		"a text with a key":          {Kind: api.KString, Text: "x", Keys: key},
		"a text too long":            {Kind: api.KString, Text: fullText + "x"},
		"a list with a truth":        {Kind: api.KList, Items: item, Bool: true},
		"a list with a text":         {Kind: api.KList, Items: item, Text: "x"},
		"a list with a key":          {Kind: api.KList, Items: item, Keys: key},
		"a list with a key alone":    {Kind: api.KList, Keys: key},
		"an object with a truth":     {Kind: api.KObject, Bool: true},
		"an object with a text":      {Kind: api.KObject, Text: "x"},
		"an object without an item":  {Kind: api.KObject, Keys: key},
		"an object without a key":    {Kind: api.KObject, Items: item},
		"more keys than items":       raw([]string{"a", "b"}, api.Value{}),
		"more items than keys":       raw([]string{"a"}, api.Value{}, api.Value{}),
		"keys that fall":             raw([]string{"b", "a"}, api.Value{}, api.Value{}),
		"keys that fall at the end":  raw([]string{"a", "c", "b"}, make([]api.Value, 3)...),
		"keys by number":             raw([]string{"2", "10"}, api.Value{}, api.Value{}),
		"keys without great letters": raw([]string{"a", "B"}, api.Value{}, api.Value{}),
		"a key behind a longer one":  raw([]string{"aa", "a"}, api.Value{}, api.Value{}),
		"an empty key behind":        raw([]string{"a", ""}, api.Value{}, api.Value{}),
		"a key twice":                raw([]string{"a", "a"}, api.Value{}, api.Value{}),
		"an empty key twice":         raw([]string{"", ""}, api.Value{}, api.Value{}),
		"a key too long":             raw([]string{fullText + "x"}, api.Value{}),
		"a second key too long":      raw([]string{"a", fullText + "x"}, api.Value{}, api.Value{}),
		"2001 in a list":             nulls(api.MaxValues),
		"2001 in an object":          manyKeys(api.MaxValues),
		"2001, in two lists":         {Kind: api.KList, Items: []api.Value{nulls(998), nulls(1000)}},
		"2001, the last one in":      {Kind: api.KList, Items: append(nulls(1998).Items, nulls(1))},
		"2001, deep":                 nested(20, nulls(api.MaxValues-20)),
		"a depth of 25":              nested(api.MaxDepth, api.Value{}),
		"a depth of 25, empty":       nested(api.MaxDepth, api.Value{Kind: api.KList}),
		"a depth of 25, beside":      {Kind: api.KList, Items: []api.Value{{}, nested(api.MaxDepth-1, api.Value{}), {}}},
		"a depth of 25, in objects":  raw([]string{"a", "b"}, api.Value{}, raw([]string{"k"}, nested(api.MaxDepth-2, api.Value{}))),
		"a depth of 100000":          nested(100000, api.Value{}),
		"many":                       nulls(1 << 20),
	}
}

func TestGood(t *testing.T) {
	for name, v := range goodValues() {
		if !Good(v) {
			t.Errorf("P2.1: Good of %s: false", name)
		}
	}
	for name, v := range wrongAlone() {
		if Good(v) {
			t.Errorf("P2.1: Good of %s: true", name)
		}
	}
}

// TestGoodWithin has values that aren't good behind good ones, in lists and objects, near and far.
func TestGoodWithin(t *testing.T) {
	within := func(v api.Value) []api.Value {
		return []api.Value{
			{Kind: api.KList, Items: []api.Value{v}},
			{Kind: api.KList, Items: []api.Value{{}, {Kind: api.KList}, v, {}}},
			raw([]string{"a", "b"}, api.Value{}, v),
			nested(5, raw([]string{"a"}, nested(5, v))),
		}
	}
	for name, v := range wrongAlone() {
		for i, outer := range within(v) {
			if Good(outer) {
				t.Errorf("P2.1: Good of %s, within others (%d): true", name, i)
			}
		}
	}
	for i, outer := range within(api.Value{Kind: api.KInt, Text: "5"}) {
		if !Good(outer) {
			t.Errorf("P2.1: Good of 5, within others (%d): false", i)
		}
	}
}

// TestGoodOfKnots has lists that have themselves within, and lists that many others share: Good ends soon at these too (P6).
func TestGoodOfKnots(t *testing.T) {
	for _, n := range []int{1, 2, 1999, 2000, 1 << 20} {
		list := api.Value{Kind: api.KList, Items: make([]api.Value, n)}
		object := manyKeys(min(n, 1<<16))
		for i := range list.Items {
			list.Items[i] = list
		}
		for i := range object.Items {
			object.Items[i] = object
		}
		if Good(list) || Good(object) {
			t.Errorf("P2.1: Good of a knot of %d: true", n)
		}
	}
	shared := api.Value{}
	for range api.MaxDepth - 1 {
		shared = api.Value{Kind: api.KList, Items: []api.Value{shared, shared}}
	}
	if Good(shared) {
		t.Error("P2.1: Good of 2^24 values, of few lists: true")
	}
	few := api.Value{Kind: api.KString, Text: "x"}
	for range 9 {
		few = api.Value{Kind: api.KList, Items: []api.Value{few, few}}
	}
	if !Good(few) || Size(few) != 1023 {
		t.Errorf("P2.1: Good of 1023 values, of few lists: false; Size %d", Size(few))
	}
}
