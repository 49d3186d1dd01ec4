package jsonc

import (
	"math/rand"
	"strings"
	"sync"
	"testing"
	"unsafe"

	"purlin/api"
	"purlin/value"
)

// roomy answers a value like v, whose lists have room left, filled with what nobody may touch.
func roomy(v api.Value) api.Value {
	items := append([]api.Value(nil), v.Items...)
	for i := range items {
		items[i] = roomy(items[i])
	}
	v.Items = append(items, value.Text("room"))[:len(items)]
	v.Keys = append(append([]string(nil), v.Keys...), "room")[:len(v.Keys)]
	return v
}

// roomLeft tells whether the room that roomy made is as it was.
func roomLeft(v api.Value) bool {
	for _, item := range v.Items {
		if !roomLeft(item) {
			return false
		}
	}
	return v.Items[:len(v.Items)+1][len(v.Items)].Text == "room" && v.Keys[:len(v.Keys)+1][len(v.Keys)] == "room"
}

func TestEncodeChangesNothing(t *testing.T) {
	for _, v := range append(pickValues(500), value.List(value.Unknown()), value.List(value.Text("\xff")), api.Value{Kind: 9}) {
		handed := roomy(v)
		text, err := Encode(handed)
		if !value.Equal(handed, v) || !roomLeft(handed) {
			t.Fatalf("P3.3: Encode changed %v", v)
		}
		if again, errAgain := Encode(v); again != text || errAgain != err {
			t.Fatalf("P7: Encode(%v): %q, then %q", v, text, again)
		}
	}
}

// fillRoom writes over the room that is left in v's lists.
func fillRoom(v api.Value) {
	for _, item := range v.Items {
		fillRoom(item)
	}
	for i := range v.Items[len(v.Items):cap(v.Items)] {
		v.Items[len(v.Items):cap(v.Items)][i] = value.Text("filled")
	}
	for i := range v.Keys[len(v.Keys):cap(v.Keys)] {
		v.Keys[len(v.Keys):cap(v.Keys)][i] = "filled"
	}
}

// empty writes over all that v's lists have.
func empty(v api.Value) {
	for i := range v.Items {
		empty(v.Items[i])
		v.Items[i] = value.Text("emptied")
	}
	for i := range v.Keys {
		v.Keys[i] = "emptied"
	}
}

// TestDecodeNewMemory wants answers that share no list, no room within a list, and no bytes with the text.
func TestDecodeNewMemory(t *testing.T) {
	r := rand.New(rand.NewSource(5))
	for _, v := range append(pickValues(500), value.List(value.List(), value.List()), value.List(value.Int(123), value.Text("abc"), object([]string{"abc"}, value.Int(-5)))) {
		text := spelled(r, v)
		first, _ := Decode(text)
		second, _ := Decode(text)
		fillRoom(first)
		if !value.Equal(first, v) {
			t.Fatalf("P3.3: %q: two lists of an answer share room", text)
		}
		empty(first)
		third, _ := Decode(text)
		if !value.Equal(second, v) || !value.Equal(third, v) {
			t.Fatalf("P3.3: %q: two answers share memory", text)
		}
		if sharesBytes(third, text) {
			t.Fatalf("P3.3: %q: the answer shares memory with it", text)
		}
	}
}

// sharesBytes tells whether a text or a key of v stands within a text's memory.
func sharesBytes(v api.Value, text string) bool {
	begin := uintptr(unsafe.Pointer(unsafe.StringData(text)))
	for _, part := range append([]string{v.Text}, v.Keys...) {
		at := uintptr(unsafe.Pointer(unsafe.StringData(part)))
		if part != "" && at >= begin && at < begin+uintptr(len(text)) {
			return true
		}
	}
	for _, item := range v.Items {
		if sharesBytes(item, text) {
			return true
		}
	}
	return false
}

// TestWrongIsNew wants each error in memory of its own.
func TestWrongIsNew(t *testing.T) {
	_, first := Decode("[1,]")
	*first = api.Diag{Code: api.ErrDeep, File: "x", At: 9}
	if _, second := Decode("[1,]"); second == first || *second != (api.Diag{Code: api.ErrJSON, At: 3}) {
		t.Errorf("P3.3: %v", second)
	}
}

// TestNothingKept asks from many sides at once: the answers hang on the arguments alone (R8).
func TestNothingKept(t *testing.T) {
	values := pickValues(200)
	var all sync.WaitGroup
	for range 4 {
		all.Go(func() {
			for _, v := range values {
				text, err := Encode(v)
				back, wrong := Decode(text)
				_, cut := Decode(strings.TrimSpace(text) + ",")
				if err != api.OK || text != written(v) || wrong != nil || !value.Equal(back, v) || cut == nil || cut.At != len(text) {
					t.Errorf("P7: %v: another answer", v)
					return
				}
			}
		})
	}
	all.Wait()
}

// TestEnds has texts that go wrong far within, and values that aren't good: each call ends, and none panics (P6).
func TestEnds(t *testing.T) {
	for _, part := range []string{"[", "{", `{"a":`, `[{"":`, "\"", "\\", `\u`, "-", "1", "0,", "\x00", "\xff", " ", "null", `"",`, `\ud800`} {
		for _, n := range []int{1, 2, 23, 24, 25, 2000, 5000, 20000, 70000} {
			text := strings.Repeat(part, n)
			for _, head := range []string{"", "[", `{"a":[`, `"`} {
				v, wrong := Decode(head + text)
				if wrong == nil && !value.Good(v) || wrong != nil && (wrong.At < 0 || wrong.At > len(head+text)) {
					t.Errorf("P6: Decode(%q, %d times %q): %+v", head, n, part, wrong)
				}
			}
		}
	}
	knot := api.Value{Kind: api.KObject, Keys: []string{"a", "b"}, Items: make([]api.Value, 2)}
	knot.Items[0], knot.Items[1] = knot, knot
	for _, v := range []api.Value{knot, {Kind: api.KObject, Keys: []string{"a"}}, {Kind: api.KObject, Items: make([]api.Value, 1)}, {Kind: 1 << 62}, nested(24, value.Unknown())} {
		if text, err := Encode(v); text != "" || err != api.ErrRange {
			t.Errorf("P6: Encode of kind %d: %q, %d", v.Kind, text, err)
		}
	}
}
