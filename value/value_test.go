package value

import (
	"math"
	"reflect"
	"slices"
	"strings"
	"testing"

	"purlin/api"
)

// object answers the object of these, which must be one.
func object(keys []string, items ...api.Value) api.Value {
	v, err := Object(keys, items)
	if err != api.OK {
		panic(err)
	}
	return v
}

// same holds values against each other field by field, without the package; a list that is empty may be nil (R5).
func same(a, b api.Value) bool {
	return a.Kind == b.Kind && a.Bool == b.Bool && a.Text == b.Text && slices.Equal(a.Keys, b.Keys) && slices.EqualFunc(a.Items, b.Items, same)
}

func TestSimple(t *testing.T) {
	for _, c := range []struct{ got, want api.Value }{
		{Null(), api.Value{Kind: api.KNull}},
		{Unknown(), api.Value{Kind: api.KUnknown}},
		{Bool(false), api.Value{Kind: api.KBool}},
		{Bool(true), api.Value{Kind: api.KBool, Bool: true}},
		{Int(0), api.Value{Kind: api.KInt, Text: "0"}},
		{Int(-12), api.Value{Kind: api.KInt, Text: "-12"}},
		{Int(math.MaxInt64), api.Value{Kind: api.KInt, Text: "9223372036854775807"}},
		{Int(math.MinInt64), api.Value{Kind: api.KInt, Text: "-9223372036854775808"}},
		{Text(""), api.Value{Kind: api.KString}},
		{Text("a\x00\xff"), api.Value{Kind: api.KString, Text: "a\x00\xff"}},
		{Text(fullText), api.Value{Kind: api.KString, Text: fullText}},
		{List(), api.Value{Kind: api.KList}},
		{List([]api.Value{}...), api.Value{Kind: api.KList}},
		{List(Int(2), Null(), Int(2)), api.Value{Kind: api.KList, Items: []api.Value{{Kind: api.KInt, Text: "2"}, {}, {Kind: api.KInt, Text: "2"}}}},
		{List(List(), List(Text("x"))), api.Value{Kind: api.KList, Items: []api.Value{{Kind: api.KList}, {Kind: api.KList, Items: []api.Value{{Kind: api.KString, Text: "x"}}}}}},
	} {
		if !same(c.got, c.want) || !Good(c.got) {
			t.Errorf("P2.1: %.200v, want %.200v", c.got, c.want)
		}
	}
}

func TestObject(t *testing.T) {
	for _, c := range []struct {
		keys  []string
		items []api.Value
		want  api.Value
	}{
		{nil, nil, raw(nil)},
		{[]string{}, nil, raw(nil)},
		{nil, []api.Value{}, raw(nil)},
		{[]string{"a"}, []api.Value{Null()}, raw([]string{"a"}, Null())},
		{[]string{"b", "a"}, []api.Value{Int(1), Int(2)}, raw([]string{"a", "b"}, Int(2), Int(1))},
		{[]string{"a", "b"}, []api.Value{Int(1), Int(2)}, raw([]string{"a", "b"}, Int(1), Int(2))},
		{[]string{"2", "10", ""}, []api.Value{Int(1), Int(2), Int(3)}, raw([]string{"", "10", "2"}, Int(3), Int(2), Int(1))},
		{[]string{"b", "B", "aa", "a"}, []api.Value{Int(1), Int(2), Int(3), Int(4)}, raw([]string{"B", "a", "aa", "b"}, Int(2), Int(4), Int(3), Int(1))},
		{[]string{"\xff", "\U00010000", "\uffff", "\x00"}, []api.Value{Int(1), Int(2), Int(3), Int(4)}, raw([]string{"\x00", "\uffff", "\U00010000", "\xff"}, Int(4), Int(3), Int(2), Int(1))},
		{[]string{"k"}, []api.Value{object([]string{"z", "y"}, List(Unknown()), Bool(true))}, raw([]string{"k"}, raw([]string{"y", "z"}, Bool(true), List(Unknown())))},
		{[]string{fullText, fullText[1:]}, []api.Value{Int(1), Int(2)}, raw([]string{fullText[1:], fullText}, Int(2), Int(1))},
	} {
		got, err := Object(c.keys, c.items)
		if !same(got, c.want) || err != api.OK || !Good(got) {
			t.Errorf("P2.1: Object(%.200q, %.200v): %.200v, %d", c.keys, c.items, got, err)
		}
	}
	full := manyKeys(api.MaxValues - 1)
	keys := slices.Clone(full.Keys)
	slices.Reverse(keys)
	if got, err := Object(keys, full.Items); !same(got, full) || err != api.OK {
		t.Errorf("P2.1: Object of 1999 keys: %d", err)
	}
}

// TestObjectErrors wants ErrRange ahead of ErrTwice (R2), and a zero value beside an error (R3).
func TestObjectErrors(t *testing.T) {
	for _, c := range []struct {
		keys  []string
		items []api.Value
		err   api.Errno
	}{
		{[]string{"a"}, nil, api.ErrRange},
		{nil, []api.Value{Null()}, api.ErrRange},
		{[]string{"a", "b"}, []api.Value{Null()}, api.ErrRange},
		{[]string{"a"}, []api.Value{Null(), Null()}, api.ErrRange},
		{[]string{"a", "a"}, []api.Value{Null()}, api.ErrRange},
		{[]string{"a", "a"}, []api.Value{Null(), Null(), Null()}, api.ErrRange},
		{[]string{"a", "a"}, []api.Value{Int(1), Int(1)}, api.ErrTwice},
		{[]string{"a", "a"}, []api.Value{Int(1), Int(2)}, api.ErrTwice},
		{[]string{"", ""}, []api.Value{Int(1), Int(2)}, api.ErrTwice},
		{[]string{"a", "b", "a"}, []api.Value{Int(1), Int(2), Int(3)}, api.ErrTwice},
		{[]string{"b", "c", "a", "c"}, []api.Value{Int(1), Int(2), Int(3), Int(4)}, api.ErrTwice},
		{[]string{"b", "a", "c", "a", "d"}, make([]api.Value, 5), api.ErrTwice},
	} {
		if got, err := Object(c.keys, c.items); err != c.err || !reflect.DeepEqual(got, api.Value{}) {
			t.Errorf("P2.1: Object(%q, %v): %v, %d, want %d", c.keys, c.items, got, err, c.err)
		}
	}
}

func TestKnown(t *testing.T) {
	for _, v := range []api.Value{Null(), Bool(false), Int(1), Text(""), Text("unknown"), List(), List(Null(), List(Null())), object(nil), object([]string{"a"}, List()), nested(23, Null())} {
		if !Known(v) {
			t.Errorf("P2.1: Known(%v): false", v)
		}
	}
	for _, v := range []api.Value{Unknown(), List(Unknown()), List(Null(), Unknown(), Null()), List(Unknown(), Null()), List(List(), List(Null(), Unknown())), object([]string{"a"}, Unknown()), object([]string{"a", "b"}, Null(), List(object([]string{"k"}, Unknown()))), nested(23, Unknown())} {
		if Known(v) {
			t.Errorf("P2.1: Known(%v): true", v)
		}
	}
}

func TestSize(t *testing.T) {
	for _, c := range []struct {
		v    api.Value
		want int
	}{
		{Null(), 1}, {Unknown(), 1}, {Bool(true), 1}, {Int(5), 1}, {Text("xyz"), 1},
		{List(), 1}, {List(Null()), 2}, {List(Null(), Text("ab"), Int(12)), 4}, {List(List(), List(Null())), 4},
		{object(nil), 1}, {object([]string{"a", "b"}, Int(1), List(Int(2), Int(3))), 5},
		{nested(23, Null()), 24}, {nulls(1999), 2000}, {manyKeys(1999), 2000},
	} {
		if got := Size(c.v); got != c.want {
			t.Errorf("P2.1: Size(%.200v): %d, want %d", c.v, got, c.want)
		}
	}
}

func TestGet(t *testing.T) {
	v := object([]string{"", "a", "aa", "\xff"}, Int(0), List(Int(1), Unknown()), Null(), Text("x"))
	for _, c := range []struct {
		v    api.Value
		key  string
		want api.Value
		ok   bool
	}{
		{v, "", Int(0), true},
		{v, "a", List(Int(1), Unknown()), true},
		{v, "aa", Null(), true},
		{v, "\xff", Text("x"), true},
		{v, "A", Null(), false},
		{v, "aaa", Null(), false},
		{v, "b", Null(), false},
		{v, "\x00", Null(), false},
		{v, "\xff\x00", Null(), false},
		{v, fullText + "x", Null(), false},
		{object(nil), "", Null(), false},
		{object([]string{"a"}, Int(1)), "", Null(), false},
		{Int(5), "a", Null(), false},
		{Text("a"), "a", Null(), false},
		{Null(), "", Null(), false},
		{Unknown(), "a", Null(), false},
		{Bool(true), "a", Null(), false},
		{List(Int(1)), "0", Null(), false},
		{List(v), "a", Null(), false},
	} {
		if got, ok := Get(c.v, c.key); !same(got, c.want) || ok != c.ok {
			t.Errorf("P2.1: Get(%v, %.40q): %v, %t", c.v, c.key, got, ok)
		}
	}
}

func TestPut(t *testing.T) {
	two := object([]string{"b", "d"}, Int(1), Int(2))
	for _, c := range []struct {
		v    api.Value
		key  string
		x    api.Value
		want api.Value
	}{
		{object([]string{"a"}, Int(1)), "a", Int(2), raw([]string{"a"}, Int(2))},
		{two, "b", Null(), raw([]string{"b", "d"}, Null(), Int(2))},
		{two, "d", List(two), raw([]string{"b", "d"}, Int(1), List(two))},
		{two, "a", Int(3), raw([]string{"a", "b", "d"}, Int(3), Int(1), Int(2))},
		{two, "c", Int(3), raw([]string{"b", "c", "d"}, Int(1), Int(3), Int(2))},
		{two, "e", Int(3), raw([]string{"b", "d", "e"}, Int(1), Int(2), Int(3))},
		{two, "", Unknown(), raw([]string{"", "b", "d"}, Unknown(), Int(1), Int(2))},
		{two, "\xff", two, raw([]string{"b", "d", "\xff"}, Int(1), Int(2), two)},
		{object(nil), "k", Int(3), raw([]string{"k"}, Int(3))},
		{object(nil), "", object(nil), raw([]string{""}, object(nil))},
		{Int(5), "k", Int(3), raw([]string{"k"}, Int(3))},
		{Text("k"), "k", Null(), raw([]string{"k"}, Null())},
		{Null(), "k", Text("x"), raw([]string{"k"}, Text("x"))},
		{Unknown(), "k", Text("x"), raw([]string{"k"}, Text("x"))},
		{Bool(true), "k", Bool(true), raw([]string{"k"}, Bool(true))},
		{List(Int(1), Int(2)), "k", List(Int(3)), raw([]string{"k"}, List(Int(3)))},
	} {
		if got := Put(c.v, c.key, c.x); !same(got, c.want) || !Good(got) {
			t.Errorf("P2.1: Put(%v, %q, %v): %v", c.v, c.key, c.x, got)
		}
	}
}

func TestDrop(t *testing.T) {
	three := object([]string{"a", "b", "c"}, Int(1), List(Int(2)), Int(3))
	for _, c := range []struct {
		v    api.Value
		key  string
		want api.Value
	}{
		{three, "a", raw([]string{"b", "c"}, List(Int(2)), Int(3))},
		{three, "b", raw([]string{"a", "c"}, Int(1), Int(3))},
		{three, "c", raw([]string{"a", "b"}, Int(1), List(Int(2)))},
		{three, "", three},
		{three, "aa", three},
		{three, "d", three},
		{object([]string{"a"}, Int(1)), "a", raw(nil)},
		{object([]string{""}, Int(1)), "", raw(nil)},
		{object(nil), "a", raw(nil)},
		{Int(5), "5", Int(5)},
		{Text("a"), "a", Text("a")},
		{Null(), "", Null()},
		{Unknown(), "a", Unknown()},
		{Bool(true), "a", Bool(true)},
		{List(three, Int(1)), "a", List(three, Int(1))},
	} {
		if got := Drop(c.v, c.key); !same(got, c.want) || !Good(got) {
			t.Errorf("P2.1: Drop(%v, %q): %v", c.v, c.key, got)
		}
	}
}

// TestBeyondGood asks of what Put answers where that has too many values, is too deep, or has too long a key: it is good no more, but Get, Put and Drop of it are as told.
func TestBeyondGood(t *testing.T) {
	long := fullText + "x"
	for name, c := range map[string]struct {
		v   api.Value
		key string
		x   api.Value
	}{
		"too many, in an object":  {manyKeys(1999), "k", Null()},
		"too many, in both":       {manyKeys(1999), "k", nulls(1999)},
		"too many, in the item":   {Null(), "k", nulls(1999)},
		"too deep":                {object([]string{"a", "z"}, Int(1), Int(2)), "k", nested(23, Int(7))},
		"too deep, alone":         {List(), "k", nested(23, Int(7))},
		"a key too long":          {object([]string{"a", "z"}, Int(1), Int(2)), long, Int(3)},
		"a key too long, alone":   {Bool(true), long, List(Int(3))},
		"too deep, too many, too": {manyKeys(1999), long, nested(20, nulls(1979))},
	} {
		put := Put(c.v, c.key, c.x)
		if !Good(c.v) || !Good(c.x) || Good(put) {
			t.Errorf("P2.1: %s: good, or made of what isn't", name)
		}
		if got, ok := Get(put, c.key); !same(got, c.x) || !ok {
			t.Errorf("P2.1: Get, %s: %t", name, ok)
		}
		if got, ok := Get(put, "none"); !same(got, Null()) || ok {
			t.Errorf("P2.1: Get of no key, %s: %t", name, ok)
		}
		back := c.v
		if back.Kind != api.KObject {
			back = object(nil)
		}
		if got := Drop(put, c.key); !same(got, back) || !Good(got) {
			t.Errorf("P2.1: Drop, %s", name)
		}
		if got := Drop(put, "none"); !same(got, put) {
			t.Errorf("P2.1: Drop of no key, %s", name)
		}
		if got := Put(put, c.key, Int(4)); !same(got, Put(c.v, c.key, Int(4))) {
			t.Errorf("P2.1: Put of its key, %s", name)
		}
		other := Put(put, "none", Int(5))
		if got, ok := Get(other, "none"); !same(got, Int(5)) || !ok || !same(Drop(other, "none"), put) {
			t.Errorf("P2.1: Put of another key, %s", name)
		}
		for _, item := range back.Keys {
			got, ok := Get(put, item)
			want, _ := Get(back, item)
			if !ok || !same(got, want) {
				t.Errorf("P2.1: Get of %q, %s", item, name)
			}
		}
	}
}

func TestClone(t *testing.T) {
	for name, v := range goodValues() {
		if got := Clone(v); !same(got, v) || !Good(got) || !Equal(got, v) {
			t.Errorf("P2.1: Clone of %s: %.200v", name, got)
		}
	}
}

// TestChapterExamples has the chapter's own.
func TestChapterExamples(t *testing.T) {
	if v, err := Object([]string{"b", "a"}, []api.Value{Int(1), Int(2)}); err != api.OK || strings.Join(v.Keys, " ") != "a b" || v.Items[0].Text != "2" || v.Items[1].Text != "1" {
		t.Errorf("P2.1: Object(b a, 1 2): %v, %d", v, err)
	}
	for _, c := range []struct {
		a, b api.Value
		want int
	}{
		{Null(), Bool(false), -1},
		{Int(2), Int(10), -1},
		{Text("2"), Text("10"), 1},
		{List(Int(1)), List(Int(1), Int(0)), -1},
	} {
		if got := Cmp(c.a, c.b); got != c.want {
			t.Errorf("P2.1: Cmp(%v, %v): %d", c.a, c.b, got)
		}
	}
	if got := Put(object([]string{"a"}, Int(1)), "a", Int(2)); !same(got, raw([]string{"a"}, Int(2))) {
		t.Errorf("P2.1: Put({a: 1}, a, 2): %v", got)
	}
	if got, ok := Get(Int(5), "a"); !same(got, Null()) || ok {
		t.Errorf("P2.1: Get(5, a): %v, %t", got, ok)
	}
}

// TestUneven has objects with fewer items than keys, or more: nothing is told of these, but nothing may break on them.
func TestUneven(t *testing.T) {
	for _, v := range []api.Value{
		raw([]string{"a", "b"}, Int(1)),
		raw([]string{"a"}, Int(1), Int(2)),
		raw([]string{"b", "a", "a"}, Int(1), Int(2), Int(3)),
		raw([]string{"a"}), raw(nil, Int(1)),
		{Kind: 7, Keys: []string{"a"}}, {Kind: -1}, {Kind: api.KInt, Text: "x"},
	} {
		for _, key := range []string{"", "a", "b", "c"} {
			Get(v, key)
			Put(v, key, v)
			Drop(v, key)
		}
		Clone(v)
		Known(v)
		Size(v)
		Equal(v, List(v))
		Cmp(v, v)
		Object([]string{"b", "a"}, []api.Value{v, v})
	}
}
