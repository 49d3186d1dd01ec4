package funcs

import (
	"math/rand"
	"slices"
	"sync"
	"testing"

	"purlin/api"
	"purlin/value"
)

const spareRoom = 3

// spare stands in room that nobody may touch.
func spare() api.Value { return value.Text("spare") }

// roomy answers a value like v, each of whose lists has spare room; also those that it need not have.
func roomy(v api.Value) api.Value {
	v.Items, v.Keys = roomyArgs(v.Items), append(make([]string, 0, len(v.Keys)+spareRoom), v.Keys...)
	for i := range v.Keys[len(v.Keys):cap(v.Keys)] {
		v.Keys[len(v.Keys):cap(v.Keys)][i] = "spare"
	}
	return v
}

func roomyArgs(args []api.Value) []api.Value {
	room := make([]api.Value, 0, len(args)+spareRoom)
	for _, arg := range args {
		room = append(room, roomy(arg))
	}
	for i := range room[len(room):cap(room)] {
		room[len(room):cap(room)][i] = spare()
	}
	return room
}

// untouched tells whether these are like want still, their spare room as it was made.
func untouched(args, want []api.Value) bool {
	if len(args) != len(want) {
		return false
	}
	for _, v := range args[len(args):cap(args)] {
		if !value.Equal(v, spare()) {
			return false
		}
	}
	for i, v := range args {
		room := v.Keys[len(v.Keys):cap(v.Keys)]
		if v.Kind != want[i].Kind || v.Bool != want[i].Bool || v.Text != want[i].Text || !slices.Equal(v.Keys, want[i].Keys) {
			return false
		}
		if slices.ContainsFunc(room, func(key string) bool { return key != "spare" }) || !untouched(v.Items, want[i].Items) {
			return false
		}
	}
	return true
}

// memory gathers where the values and keys of lists stand, spare room included.
type memory struct {
	items map[*api.Value]int
	keys  map[*string]int
}

func (m memory) gather(v api.Value) {
	for i := range v.Items[:cap(v.Items)] {
		m.items[&v.Items[:cap(v.Items)][i]]++
	}
	for i := range v.Keys[:cap(v.Keys)] {
		m.keys[&v.Keys[:cap(v.Keys)][i]]++
	}
	for _, item := range v.Items {
		m.gather(item)
	}
}

// shared tells whether a place was met twice.
func (m memory) shared() bool {
	for _, n := range m.items {
		if n > 1 {
			return true
		}
	}
	for _, n := range m.keys {
		if n > 1 {
			return true
		}
	}
	return false
}

// spoil writes over all lists of v, spare room too.
func spoil(v api.Value) {
	for i := range v.Items {
		spoil(v.Items[i])
	}
	for i := range v.Items[:cap(v.Items)] {
		v.Items[:cap(v.Items)][i] = value.Text("spoilt")
	}
	for i := range v.Keys[:cap(v.Keys)] {
		v.Keys[:cap(v.Keys)][i] = "spoilt"
	}
}

// TestNewMemory wants arguments untouched, and answers that share no list with them, nor two of their own.
func TestNewMemory(t *testing.T) {
	r := rand.New(rand.NewSource(9))
	for range 10000 {
		name, want := pickCall(r)
		args := roomyArgs(want)
		got, err := Call(name, args)
		if !untouched(args, want) {
			t.Fatalf("P7.3: %s of %.300v changed what was handed in", name, want)
		}
		m := memory{map[*api.Value]int{}, map[*string]int{}}
		m.gather(api.Value{Items: args})
		m.gather(got)
		if m.shared() {
			t.Fatalf("P7.3: %s of %.300v: %v shares memory", name, want, got)
		}
		kept := value.Clone(got)
		spoil(api.Value{Items: args})
		if !value.Equal(got, kept) {
			t.Fatalf("P7.3: %s of %.300v: the answer hangs on what was handed in", name, want)
		}
		spoil(got)
		if again, errAgain := Call(name, want); errAgain != err || !value.Equal(again, kept) {
			t.Fatalf("P7.3: %s of %.300v: %v behind an answer that was written over, want %v", name, want, again, kept)
		}
	}
}

// twiceArgs answers, for a function, arguments that share lists.
func twiceArgs(name string) []api.Value {
	list := roomy(value.List(value.List(value.Int(1)), value.Text("a")))
	object := api.Value{Kind: api.KObject, Keys: []string{"c", "d"}, Items: []api.Value{list, list}}
	switch name {
	case "concat":
		return []api.Value{list, list, list}
	case "merge":
		return []api.Value{object, {Kind: api.KObject, Keys: []string{"a"}, Items: []api.Value{list}}, object}
	case "lookup":
		return []api.Value{object, value.Text("c"), list}
	case "values":
		return []api.Value{object}
	}
	return []api.Value{{Kind: api.KList, Items: []api.Value{list, list}}} // reverse
}

// TestSameArgument hands in one list at several places: the answer has as many of it.
func TestSameArgument(t *testing.T) {
	for _, name := range []string{"concat", "merge", "values", "lookup", "reverse"} {
		args := twiceArgs(name)
		got, err := Call(name, args)
		m := memory{map[*api.Value]int{}, map[*string]int{}}
		m.gather(got)
		if err != api.OK || len(got.Items) < 2 || m.shared() {
			t.Errorf("P7.3: %s: two lists of the answer %v (%d) share memory", name, got, err)
		}
		kept := value.Clone(got)
		spoil(api.Value{Items: args})
		if !value.Equal(got, kept) {
			t.Errorf("P7.3: %s: the answer hangs on what was handed in", name)
		}
	}
}

// TestNothingKept asks from many sides at once: the answers hang on the arguments alone (R8), and nobody writes to them.
func TestNothingKept(t *testing.T) {
	type answered struct {
		name string
		args []api.Value
		want api.Value
		err  api.Errno
	}
	r := rand.New(rand.NewSource(10))
	var calls []answered
	for range 500 {
		name, args := pickCall(r)
		want, err := Call(name, args)
		calls = append(calls, answered{name, args, want, err})
	}
	var all sync.WaitGroup
	for range 4 {
		all.Go(func() {
			for i := len(calls) - 1; i >= 0; i-- {
				c := calls[i]
				if got, err := Call(c.name, c.args); err != c.err || !value.Equal(got, c.want) {
					t.Errorf("P7.2: %s of %.300v: another answer", c.name, c.args)
					return
				}
			}
		})
	}
	all.Wait()
}
