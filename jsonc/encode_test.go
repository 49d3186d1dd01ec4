package jsonc

import (
	"strings"
	"testing"

	"purlin/api"
	"purlin/value"
)

// fullText has as many bytes as a text may have.
var fullText = strings.Repeat("x", api.MaxText)

// object answers the object of these, which must be one.
func object(keys []string, items ...api.Value) api.Value {
	v, err := value.Object(keys, items)
	if err != api.OK {
		panic(err)
	}
	return v
}

// number answers that of a text.
func number(text string) api.Value { return api.Value{Kind: api.KInt, Text: text} }

// nested answers inner, within so many lists.
func nested(lists int, inner api.Value) api.Value {
	for range lists {
		inner = value.List(inner)
	}
	return inner
}

// nulls answers a list of so many.
func nulls(n int) api.Value { return value.List(make([]api.Value, n)...) }

func TestEncode(t *testing.T) {
	nines := strings.Repeat("9", api.MaxDigits)
	for _, c := range []struct {
		v    api.Value
		want string
	}{
		{object([]string{"b", "a"}, value.List(value.Int(1), value.Null()), value.Text("x\n")), `{"a":"x\n","b":[1,null]}`},
		{value.Null(), "null"},
		{value.Bool(true), "true"},
		{value.Bool(false), "false"},
		{value.Int(0), "0"},
		{value.Int(-12), "-12"},
		{number(nines), nines},
		{number("-" + nines), "-" + nines},
		{value.Text(""), `""`},
		{value.Text("null"), `"null"`},
		{value.Text("01"), `"01"`},
		{value.Text(`"\/`), `"\"\\/"`},
		{value.Text(`\n`), `"\\n"`},
		{value.Text("\b\f\n\r\t"), `"\b\f\n\r\t"`},
		{value.Text("\x00\x01\x02\x03\x04\x05\x06\x07"), `"\u0000\u0001\u0002\u0003\u0004\u0005\u0006\u0007"`},
		{value.Text("\x0b\x0e\x0f\x10\x11\x12\x13\x14"), `"\u000b\u000e\u000f\u0010\u0011\u0012\u0013\u0014"`},
		{value.Text("\x15\x16\x17\x18\x19\x1a\x1b\x1c"), `"\u0015\u0016\u0017\u0018\u0019\u001a\u001b\u001c"`},
		{value.Text("\x1d\x1e\x1f !"), `"\u001d\u001e\u001f !"`},
		{value.Text("<>&'`~\x7f"), "\"<>&'`~\x7f\""},
		{value.Text("\u0080\u00e9\u07ff\u0800\u2028\u2029"), "\"\u0080\u00e9\u07ff\u0800\u2028\u2029\""},
		{value.Text("\ud7ff\ue000\ufeff\ufffd\uffff"), "\"\ud7ff\ue000\ufeff\ufffd\uffff\""},
		{value.Text("\U00010000\U0001f600\U0010ffff"), "\"\U00010000\U0001f600\U0010ffff\""},
		{value.List(), "[]"},
		{value.List(value.Null()), "[null]"},
		{value.List(value.Bool(true), value.List(value.Int(-1), value.Text("a")), object(nil)), `[true,[-1,"a"],{}]`},
		{object(nil), "{}"},
		{object([]string{""}, value.Text("")), `{"":""}`},
		{object([]string{"2", "10", "a", "B"}, value.Int(1), value.Int(2), value.Int(3), value.Int(4)), `{"10":2,"2":1,"B":4,"a":3}`},
		{object([]string{"\"\n\\\x01\u00e9"}, value.Null()), "{\"\\\"\\n\\\\\\u0001\u00e9\":null}"},
		{object([]string{"\uffff", "\U00010000"}, value.Int(1), value.Int(2)), "{\"\uffff\":1,\"\U00010000\":2}"},
		{object([]string{"a"}, object([]string{"b", "c"}, object(nil), value.List())), `{"a":{"b":{},"c":[]}}`},
		{nested(api.MaxDepth-1, value.Null()), strings.Repeat("[", 23) + "null" + strings.Repeat("]", 23)},
		{nulls(api.MaxValues - 1), "[" + strings.Repeat("null,", 1998) + "null]"},
		{value.Text(fullText), `"` + fullText + `"`},
		{object([]string{fullText}, value.Null()), `{"` + fullText + `":null}`},
	} {
		if got, err := Encode(c.v); got != c.want || err != api.OK {
			t.Errorf("P3.1: Encode(%.200v): %.200q, %d, want %.200q", c.v, got, err, c.want)
		}
	}
}

// TestEncodeLong has JSON of as many bytes as it may have, and of one more.
func TestEncodeLong(t *testing.T) {
	list := func(n int) api.Value {
		full := value.Text(fullText)
		return value.List(full, full, full, value.Text(fullText[:n]))
	}
	const signs = 2 + 3 + 4*2 // the list's, the commas, the quotes
	most := api.MaxJSON - signs - 3*api.MaxText
	control := strings.Repeat("\x01", (api.MaxJSON-2)/6) // 6 bytes of JSON each
	rest := "abcdef"[:(api.MaxJSON-2)%6]
	for _, c := range []struct {
		v    api.Value
		size int
	}{
		{list(most), api.MaxJSON},
		{list(most - 1), api.MaxJSON - 1},
		{value.Text(control), api.MaxJSON - len(rest)},
		{value.Text(control + rest), api.MaxJSON},
		{value.Text(rest + control), api.MaxJSON},
	} {
		if got, err := Encode(c.v); len(got) != c.size || err != api.OK {
			t.Errorf("P3.1: JSON of %d bytes: %d, %d", c.size, len(got), err)
		}
	}
	keys, items := []string{}, []api.Value{}
	for n := range 1999 {
		keys, items = append(keys, fullText[:api.MaxText-n]), append(items, value.Text(fullText))
	}
	for name, v := range map[string]api.Value{
		"one byte more":        list(most + 1),
		"the last bracket":     value.List(list(most-1), value.Null()),
		"escapes":              value.Text(control + rest + "x"),
		"escapes alone":        value.Text(control + "\x01"),
		"escapes in a key":     object([]string{control}, value.Null()),
		"texts of 32 million":  value.List(items...),
		"keys, texts likewise": object(keys, items...),
		"numbers":              value.List(copies(700, number(strings.Repeat("9", 100)))...),
	} {
		if got, err := Encode(v); got != "" || err != api.ErrLong {
			t.Errorf("P3.1: Encode, %s: %.100q, %d", name, got, err)
		}
	}
}

// copies answers one value so many times.
func copies(n int, v api.Value) []api.Value {
	var values []api.Value
	for range n {
		values = append(values, v)
	}
	return values
}

// noUTF8 are bytes that are no UTF-8, and where the first stands that begins none.
func noUTF8() map[string]int {
	return map[string]int{
		"\x80":                 0,
		"\xbf":                 0,
		"\xff":                 0,
		"\xfe":                 0,
		"a\xc3":                1, // no second byte
		"\xc3a":                0,
		"\xc3\xc3\xa9":         0,
		"\xc0\x80":             0, // longer than need be
		"\xc1\xbf":             0,
		"\xe0\x80\x80":         0,
		"\xe0\x9f\xbf":         0,
		"\xf0\x80\x80\x80":     0,
		"\xf0\x8f\xbf\xbf":     0,
		"\xe2\x82":             0,
		"\xe2\x82a":            0,
		"\u00e9\xe2\x82\xc3":   2,
		"\xf0\x9f\x98":         0,
		"\U0001f600\x80":       4,
		"\xed\xa0\x80":         0, // D800
		"\xed\xbf\xbf":         0, // DFFF
		"\xf4\x90\x80\x80":     0, // 110000
		"\xf5\x80\x80\x80":     0,
		"\xf8\x88\x80\x80\x80": 0,
		"\ufffd\xfd":           3,
		"abc\xffabc":           3,
	}
}

// TestEncodeErrors wants the first error in the chapter's order (R2), and an empty text beside it (R3).
func TestEncodeErrors(t *testing.T) {
	bad, unknown, long := value.Text("\xff"), value.Unknown(), value.List(copies(5, value.Text(fullText))...)
	wrong := api.Value{Kind: api.KInt, Text: "01"}
	knot := api.Value{Kind: api.KList, Items: make([]api.Value, 2)}
	knot.Items[0], knot.Items[1] = knot, knot
	for name, c := range map[string]struct {
		v   api.Value
		err api.Errno
	}{
		"kind 9":                 {api.Value{Kind: 9}, api.ErrRange},
		"kind -1":                {api.Value{Kind: -1}, api.ErrRange},
		"01":                     {wrong, api.ErrRange},
		"-0":                     {number("-0"), api.ErrRange},
		"1.5":                    {number("1.5"), api.ErrRange},
		"101 digits":             {number(strings.Repeat("9", 101)), api.ErrRange},
		"a null with a text":     {api.Value{Text: "x"}, api.ErrRange},
		"a text too long":        {value.Text(fullText + "x"), api.ErrRange},
		"a key too long":         {object([]string{fullText + "x"}, value.Null()), api.ErrRange},
		"keys that fall":         {api.Value{Kind: api.KObject, Keys: []string{"b", "a"}, Items: make([]api.Value, 2)}, api.ErrRange},
		"a key twice":            {api.Value{Kind: api.KObject, Keys: []string{"a", "a"}, Items: make([]api.Value, 2)}, api.ErrRange},
		"more keys than items":   {api.Value{Kind: api.KObject, Keys: []string{"a", "b"}, Items: make([]api.Value, 1)}, api.ErrRange},
		"2001 values":            {nulls(2000), api.ErrRange},
		"a depth of 25":          {nested(24, value.Null()), api.ErrRange},
		"a knot":                 {knot, api.ErrRange},
		"wrong, within":          {value.List(value.Null(), object([]string{"a"}, wrong)), api.ErrRange},
		"wrong, all of it":       {value.List(unknown, bad, long, wrong), api.ErrRange},
		"unknown":                {unknown, api.ErrUnknown},
		"unknown, within":        {value.List(value.Null(), object([]string{"a"}, unknown)), api.ErrUnknown},
		"unknown, behind bad":    {value.List(bad, long, unknown), api.ErrUnknown},
		"unknown, of a bad key":  {object([]string{"\xff"}, unknown), api.ErrUnknown},
		"bad":                    {bad, api.ErrText},
		"bad, within":            {value.List(value.Null(), object([]string{"a"}, value.List(bad))), api.ErrText},
		"bad, a key":             {object([]string{"\xff"}, value.Null()), api.ErrText},
		"bad, a key behind":      {object([]string{"a", "\xff"}, value.Null(), value.Null()), api.ErrText},
		"bad, a key within":      {value.List(value.Int(1), object([]string{"a\x80"}, value.Null())), api.ErrText},
		"bad, behind too much":   {value.List(long, bad), api.ErrText},
		"bad, a key, behind too": {value.List(long, object([]string{"\xff"}, value.Null())), api.ErrText},
		"bad, at the end":        {value.Text(fullText[1:] + "\xff"), api.ErrText},
		"too much":               {long, api.ErrLong},
	} {
		if got, err := Encode(c.v); got != "" || err != c.err {
			t.Errorf("P3.1: Encode, %s: %.100q, %d, want %d", name, got, err, c.err)
		}
	}
	for text := range noUTF8() {
		for _, v := range []api.Value{value.Text(text), object([]string{text}, value.Null())} {
			if got, err := Encode(v); got != "" || err != api.ErrText {
				t.Errorf("P3.1: Encode of %q, of kind %d: %q, %d", text, v.Kind, got, err)
			}
		}
	}
}
