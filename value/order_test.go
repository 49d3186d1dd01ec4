package value

import (
	"math/rand"
	"slices"
	"strings"
	"testing"

	"purlin/api"
)

// ladder answers good values, each ahead of the next one by the chapter's words.
func ladder() []api.Value {
	nines := strings.Repeat("9", api.MaxDigits)
	number := func(text string) api.Value { return api.Value{Kind: api.KInt, Text: text} }
	ab := []string{"a", "b"}
	return []api.Value{
		Null(), Unknown(), Bool(false), Bool(true),
		number("-" + nines), number("-1" + nines[1:]), Int(-100), Int(-12), Int(-11), Int(-2), Int(-1), Int(0),
		Int(1), Int(2), Int(10), Int(11), Int(100), number("9223372036854775807"), number("9223372036854775808"), number(nines[1:]), number(nines),
		Text(""), Text("\x00"), Text("10"), Text("2"), Text("2\x00"), Text("20"), Text("A"), Text("Z"), Text("a"), Text("aa"), Text("b"), Text("\u00e9"), Text("\uffff"), Text("\U00010000"), Text("\xff"),
		List(), List(Null()), List(Null(), Null()), List(Null(), Int(1)), List(Bool(true), Null()), List(Int(1)), List(Int(1), Int(0)), List(Int(1), Int(0), Null()), List(Int(1), List()), List(Int(2)), List(Int(10)), List(Text("10")), List(Text("2")), List(List()), List(List(), Null()), List(List(Null())), List(object(nil)),
		object(nil), object([]string{""}, object(ab, Int(1), Int(1))), object([]string{"", "a"}, Null(), Null()),
		object([]string{"a"}, Null()), object([]string{"a"}, Int(2)), object([]string{"a"}, Int(10)), object([]string{"a"}, object(nil)),
		object(ab, Null(), Null()), object(ab, Null(), Int(5)), object(ab, Int(1), Int(9)), object(ab, Int(2), Int(1)), object(ab, Int(2), List(Int(1))),
		object([]string{"a", "b", "c"}, Null(), Null(), Null()), object([]string{"a", "c"}, Null(), Null()), object([]string{"aa"}, Null()), object([]string{"b"}, Null()), object([]string{"\xff"}, Null()),
	}
}

func sign(n int) int { return max(-1, min(1, n)) }

func TestLadder(t *testing.T) {
	steps := ladder()
	for i, a := range steps {
		if !Good(a) {
			t.Fatalf("not good: %v", a)
		}
		for k, b := range steps {
			for name, c := range map[string][2]api.Value{"bare": {a, b}, "in a list": {List(a), List(b)}, "behind another": {List(Int(1), a, Null()), List(Int(1), b, Null())}, "in an object": {object([]string{"k"}, a), object([]string{"k"}, b)}, "behind another key": {object([]string{"j", "k"}, Null(), a), object([]string{"j", "k"}, Null(), b)}} {
				if got := Cmp(c[0], c[1]); got != sign(i-k) {
					t.Errorf("P2.2: Cmp(%.100v, %.100v) %s: %d, want %d", a, b, name, got, sign(i-k))
				}
				if got := Equal(c[0], c[1]); got != (i == k) {
					t.Errorf("P2.2: Equal(%.100v, %.100v) %s: %t", a, b, name, got)
				}
			}
		}
	}
}

// TestFirstItemAhead wants the first item that differs to say it, whatever stands behind, and keys ahead of all items.
func TestFirstItemAhead(t *testing.T) {
	for _, c := range [][2]api.Value{
		{List(Int(1), Int(9), Int(9)), List(Int(2))},
		{List(Null(), Int(9)), List(Bool(false))},
		{List(List(Int(1)), Int(9)), List(List(Int(1), Int(0)), Int(1))},
		{object([]string{"a"}, Int(9)), object([]string{"a", "b"}, Int(1), Int(1))},
		{object([]string{"a", "c"}, Int(9), Int(9)), object([]string{"b"}, Int(1))},
		{object([]string{"a", "b"}, Int(1), Int(9)), object([]string{"a", "b"}, Int(2), Int(1))},
		{object([]string{"a", "b"}, Int(9), Int(9)), object([]string{"a", "c"}, Int(1), Int(1))},
	} {
		if Cmp(c[0], c[1]) != -1 || Cmp(c[1], c[0]) != 1 {
			t.Errorf("P2.2: Cmp(%v, %v): %d, %d", c[0], c[1], Cmp(c[0], c[1]), Cmp(c[1], c[0]))
		}
	}
}

// TestEmptyLists wants a list that is empty to be as one that is nil (R5).
func TestEmptyLists(t *testing.T) {
	for _, c := range [][2]api.Value{
		{{Kind: api.KList}, {Kind: api.KList, Items: []api.Value{}, Keys: []string{}}},
		{{Kind: api.KObject}, {Kind: api.KObject, Items: []api.Value{}, Keys: []string{}}},
		{{Kind: api.KNull}, {Kind: api.KNull, Items: []api.Value{}, Keys: []string{}}},
		{{Kind: api.KInt, Text: "1"}, {Kind: api.KInt, Text: "1", Items: make([]api.Value, 0, 4), Keys: make([]string, 0, 4)}},
	} {
		if !Equal(c[0], c[1]) || Cmp(c[0], c[1]) != 0 || Cmp(c[1], c[0]) != 0 || !Equal(List(c[0]), List(c[1])) {
			t.Errorf("P7: %v and %v: not the same", c[0], c[1])
		}
	}
}

// pickValue answers a good value of few kinds of parts, so that two that are picked are often alike, or nearly.
func pickValue(r *rand.Rand, depth int) api.Value {
	kinds := 7
	if depth == 0 {
		kinds = 5
	}
	switch r.Intn(kinds) {
	case 0:
		return Null()
	case 1:
		return Unknown()
	case 2:
		return Bool(r.Intn(2) == 0)
	case 3:
		return Int(r.Intn(23) - 11)
	case 4:
		return Text([]string{"", "a", "b", "10", "2"}[r.Intn(5)])
	case 5:
		v := List()
		for range r.Intn(4) {
			v = List(append(v.Items, pickValue(r, depth-1))...)
		}
		return v
	}
	v := object(nil)
	for range r.Intn(4) {
		v = Put(v, []string{"", "a", "b", "c"}[r.Intn(4)], pickValue(r, depth-1))
	}
	return v
}

func pickValues(n int) []api.Value {
	r := rand.New(rand.NewSource(3))
	values := ladder()
	for len(values) < n {
		values = append(values, pickValue(r, 3))
	}
	return values
}

// TestOneOrder wants of each two values that one is ahead where they differ, and that neither is where they don't.
func TestOneOrder(t *testing.T) {
	values := pickValues(400)
	for _, a := range values {
		for _, b := range values {
			there, back := Cmp(a, b), Cmp(b, a)
			if there != -back || there < -1 || there > 1 || (there == 0) != same(a, b) || Equal(a, b) != same(a, b) {
				t.Fatalf("P2.2: %v and %v: %d, the other way round %d; Equal %t", a, b, there, back, Equal(a, b))
			}
		}
	}
}

// TestSortedThroughout sorts, and then wants each value ahead of, or the same as, all that come behind it: so no three go round.
func TestSortedThroughout(t *testing.T) {
	values := pickValues(400)
	slices.SortFunc(values, Cmp)
	for i, a := range values {
		for _, b := range values[i:] {
			if Cmp(a, b) > 0 {
				t.Fatalf("P2.2: %v stands ahead of %v", a, b)
			}
		}
	}
}
