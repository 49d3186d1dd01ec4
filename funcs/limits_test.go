package funcs

import (
	"strings"
	"testing"

	"purlin/api"
	"purlin/value"
)

// nulls answers a list of so many.
func nulls(n int) api.Value { return api.Value{Kind: api.KList, Items: make([]api.Value, n)} }

// manyKeys answers an object of n keys, the first one named by a number.
func manyKeys(first, n int) api.Value {
	v := api.Value{Kind: api.KObject, Items: make([]api.Value, n)}
	for i := range n {
		v.Keys = append(v.Keys, string([]byte{byte((first + i) >> 8), byte(first + i)}))
	}
	return v
}

// nested answers a null within so many lists.
func nested(lists int) api.Value {
	v := value.Null()
	for range lists {
		v = value.List(v)
	}
	return v
}

// textsOf answers a list of a text, so many times.
func textsOf(n int, one string) api.Value {
	v := value.List()
	for range n {
		v.Items = append(v.Items, value.Text(one))
	}
	return v
}

// under answers an object with a key alone.
func under(key string, item api.Value) api.Value { return value.Put(value.Null(), key, item) }

// copies answers the same argument, so many times.
func copies(n int, arg api.Value) []api.Value {
	args := make([]api.Value, n)
	for i := range args {
		args[i] = arg
	}
	return args
}

// TestJoinLong has a text of as many bytes as one may have, and of one more.
func TestJoinLong(t *testing.T) {
	half := strings.Repeat("y", api.MaxText/2)
	checkAnswer(t, "join", []api.Value{value.Text(""), textsOf(2, half)}, value.Text(half+half))
	checkError(t, "join", []api.Value{value.Text("-"), textsOf(2, half)}, api.ErrLong)
	checkAnswer(t, "join", []api.Value{value.Text("-"), value.List(value.Text(half[1:]), value.Text(half))}, value.Text(half[1:]+"-"+half))
	checkAnswer(t, "join", []api.Value{value.Text(fullText), textsOf(1, fullText)}, value.Text(fullText))
	checkAnswer(t, "join", []api.Value{value.Text(fullText), textsOf(2, "")}, value.Text(fullText))
	checkError(t, "join", []api.Value{value.Text(fullText), textsOf(3, "")}, api.ErrLong)
	checkError(t, "join", []api.Value{value.Text(fullText), value.List(value.Text(""), value.Text("a"))}, api.ErrLong)
	checkError(t, "join", []api.Value{value.Text(fullText), textsOf(1999, fullText)}, api.ErrLong)
	checkAnswer(t, "join", []api.Value{value.Text(""), textsOf(1999, "")}, value.Text(""))
	checkAnswer(t, "join", []api.Value{value.Text("\u00e9"), textsOf(1999, "\u20ac")}, value.Text(strings.Repeat("\u20ac\u00e9", 1998)+"\u20ac"))
}

func TestSplitLong(t *testing.T) {
	comma := value.Text(",")
	checkAnswer(t, "split", []api.Value{comma, value.Text(strings.Repeat(",", 1998))}, textsOf(1999, ""))
	checkError(t, "split", []api.Value{comma, value.Text(strings.Repeat(",", 1999))}, api.ErrLong)
	checkError(t, "split", []api.Value{comma, value.Text(strings.Repeat(",", api.MaxText))}, api.ErrLong)
	checkAnswer(t, "split", []api.Value{value.Text("xx"), value.Text(fullText[:3996])}, textsOf(1999, ""))
	checkAnswer(t, "split", []api.Value{value.Text(fullText), value.Text(fullText)}, textsOf(2, ""))
}

// TestConcatLong has lists that are good each, and too great together.
func TestConcatLong(t *testing.T) {
	checkAnswer(t, "concat", []api.Value{nulls(1999)}, nulls(1999))
	checkAnswer(t, "concat", []api.Value{nulls(1000), nulls(999)}, nulls(1999))
	checkError(t, "concat", []api.Value{nulls(1000), nulls(1000)}, api.ErrLong)
	checkError(t, "concat", []api.Value{nulls(1999), nulls(0), nulls(1)}, api.ErrLong)
	checkError(t, "concat", copies(20000, nulls(1999)), api.ErrLong)
	checkAnswer(t, "concat", copies(20000, nulls(0)), nulls(0))
	checkAnswer(t, "concat", []api.Value{value.List(nulls(997)), value.List(nulls(1000))}, value.List(nulls(997), nulls(1000)))
	checkError(t, "concat", []api.Value{value.List(nulls(998)), value.List(nulls(1000))}, api.ErrLong)
	checkError(t, "concat", copies(1999, value.List(nulls(1998))), api.ErrLong)
}

// TestMergeLong has objects that are good each; what counts is what is left of all.
func TestMergeLong(t *testing.T) {
	checkAnswer(t, "merge", []api.Value{manyKeys(0, 1000), manyKeys(1000, 999)}, manyKeys(0, 1999))
	checkAnswer(t, "merge", []api.Value{manyKeys(900, 1099), manyKeys(0, 1500)}, manyKeys(0, 1999))
	checkError(t, "merge", []api.Value{manyKeys(0, 1000), manyKeys(1000, 1000)}, api.ErrLong)
	checkError(t, "merge", []api.Value{manyKeys(1, 1999), manyKeys(0, 1)}, api.ErrLong)
	checkAnswer(t, "merge", copies(50, manyKeys(0, 1999)), manyKeys(0, 1999))
	checkAnswer(t, "merge", copies(20000, manyKeys(0, 0)), manyKeys(0, 0))
	two := value.Put(under("a", nulls(997)), "b", nulls(1000))
	checkAnswer(t, "merge", []api.Value{under("b", nulls(1000)), under("a", nulls(997))}, two)
	checkError(t, "merge", []api.Value{under("b", nulls(1000)), under("a", nulls(998))}, api.ErrLong)
	checkAnswer(t, "merge", []api.Value{under("a", nulls(1998)), under("b", nulls(1000)), under("a", nulls(997))}, two)
	checkError(t, "merge", []api.Value{under("a", nulls(1)), under("b", nulls(1000)), under("a", nulls(998))}, api.ErrLong)
}

// TestGreatest has arguments as great as may be: what isn't greater than they are is answered.
func TestGreatest(t *testing.T) {
	full, deep := value.Text(fullText), nested(api.MaxDepth-1)
	for _, name := range []string{"lower", "reverse", "tostring"} {
		checkAnswer(t, name, []api.Value{full}, full)
	}
	checkAnswer(t, "upper", []api.Value{full}, value.Text(strings.ToUpper(fullText)))
	checkAnswer(t, "length", []api.Value{full}, value.Int(api.MaxText))
	checkAnswer(t, "substr", []api.Value{full, value.Int(0), value.Int(api.MaxText)}, full)
	checkAnswer(t, "substr", []api.Value{full, value.Int(api.MaxText - 1), value.Int(api.MaxText)}, value.Text("x"))
	checkAnswer(t, "length", []api.Value{nulls(1999)}, value.Int(1999))
	checkAnswer(t, "length", []api.Value{manyKeys(0, 1999)}, value.Int(1999))
	checkAnswer(t, "reverse", []api.Value{nulls(1999)}, nulls(1999))
	checkAnswer(t, "reverse", []api.Value{deep}, deep)
	checkAnswer(t, "concat", []api.Value{deep, nulls(0)}, deep)
	checkAnswer(t, "contains", []api.Value{value.List(deep.Items[0]), deep}, value.Bool(false))
	checkAnswer(t, "values", []api.Value{manyKeys(0, 1999)}, nulls(1999))
	checkAnswer(t, "values", []api.Value{under("a", deep.Items[0])}, deep)
	checkAnswer(t, "keys", []api.Value{under(fullText, value.Null())}, value.List(full))
	checkAnswer(t, "lookup", []api.Value{under(fullText, deep.Items[0]), full, value.Null()}, deep.Items[0])
	checkAnswer(t, "lookup", []api.Value{manyKeys(0, 0), full, deep}, deep)
	checkAnswer(t, "merge", []api.Value{under(fullText, deep.Items[0])}, under(fullText, deep.Items[0]))
	keys, err := Call("keys", []api.Value{manyKeys(0, 1999)})
	if err != api.OK || len(keys.Items) != 1999 || keys.Items[1998].Text != manyKeys(1998, 1).Keys[0] {
		t.Errorf("P7.1: keys of 1999: %d of them, %d", len(keys.Items), err)
	}
	checkAnswer(t, "max", append(copies(100000, value.Int(-5)), value.Int(-4)), value.Int(-4))
	checkAnswer(t, "min", append(copies(100000, value.Int(5)), value.Int(-4)), value.Int(-4))
}

// TestEnds has lists that have themselves within: each call ends, and none panics (P6).
func TestEnds(t *testing.T) {
	list := api.Value{Kind: api.KList, Items: make([]api.Value, 3)}
	for i := range list.Items {
		list.Items[i] = list
	}
	object := api.Value{Kind: api.KObject, Keys: []string{"a"}, Items: make([]api.Value, 1)}
	object.Items[0] = object
	for _, name := range append(Names(), "nope") {
		for _, knot := range []api.Value{list, object} {
			checkError(t, name, []api.Value{value.Unknown(), knot}, api.ErrRange)
		}
	}
}
