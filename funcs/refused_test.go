package funcs

import (
	"strings"
	"testing"

	"purlin/api"
	"purlin/value"
)

// aKnown answers a value of a letter of the chapter's table; such a one that no function refuses for what it is.
func aKnown(letter byte) api.Value {
	switch letter {
	case 'b':
		return value.Bool(true)
	case 'n':
		return value.Int(3)
	case 's':
		return value.Text("7")
	case 'l':
		return value.List(value.Text("a"))
	case 'o':
		return value.Put(value.Null(), "a", value.Int(1))
	}
	return value.Null()
}

// signatures tells which letters each argument may be of (0 is null). A * tells that any number of such may follow.
func signatures() map[string][]string {
	return map[string][]string{
		"length": {"slo"}, "upper": {"s"}, "lower": {"s"}, "reverse": {"sl"},
		"substr": {"s", "n", "n"}, "join": {"s", "l"}, "split": {"s", "s"},
		"concat": {"l*"}, "contains": {"l", "0bnslo"}, "keys": {"o"}, "values": {"o"},
		"lookup": {"o", "s", "0bnslo"}, "merge": {"o*"}, "max": {"n", "n*"}, "min": {"n", "n*"},
		"abs": {"n"}, "range": {"n"}, "tostring": {"bns"}, "toint": {"ns"},
	}
}

// allowed tells by a signature whether arguments of these letters are taken.
func allowed(signature []string, letters string) bool {
	for len(signature) > 0 {
		kinds, more := strings.CutSuffix(signature[0], "*")
		switch {
		case more && letters == "":
			return true
		case letters == "" || !strings.Contains(kinds, letters[:1]):
			return false
		case !more:
			signature = signature[1:]
		}
		letters = letters[1:]
	}
	return letters == ""
}

// lettersUpTo answers all texts of at most n letters.
func lettersUpTo(n int) []string {
	all, last := []string{""}, []string{""}
	for range n {
		var next []string
		for _, ahead := range last {
			for _, letter := range []string{"0", "b", "n", "s", "l", "o"} {
				next = append(next, ahead+letter)
			}
		}
		all, last = append(all, next...), next
	}
	return all
}

// TestKindsAndCounts calls each function of up to four arguments, of all kinds.
func TestKindsAndCounts(t *testing.T) {
	if len(signatures()) != len(Names()) {
		t.Errorf("P7.1: %d functions", len(Names()))
	}
	for _, letters := range lettersUpTo(4) {
		var args []api.Value
		for i := range len(letters) {
			args = append(args, aKnown(letters[i]))
		}
		for name, signature := range signatures() {
			if !allowed(signature, letters) {
				checkError(t, name, args, api.ErrArgs)
			} else if got, err := Call(name, args); err != api.OK || !value.Good(got) || !value.Known(got) {
				t.Errorf("P7.1: %s of the kinds %s: %v, %d", name, letters, got, err)
			}
		}
	}
}

// TestOutside has arguments of the right kinds, outside what the table says.
func TestOutside(t *testing.T) {
	for _, c := range []struct{ name, args string }{
		{"substr", `["abc",-1,1]`},
		{"substr", `["abc",1,-1]`},
		{"substr", `["abc",-1,-1]`},
		{"substr", `["",9,-1]`},
		{"substr", `["",0,-` + nines + `]`},
		{"substr", `["",-` + nines + `,0]`},
		{"substr", `["abc",-18446744073709551615,1]`},
		{"join", `["",[1]]`},
		{"join", `["",["a",null]]`},
		{"join", `["",[["a"]]]`},
		{"join", `["",["a","b",true]]`},
		{"split", `["",""]`},
		{"split", `["","abc"]`},
		{"range", `[-1]`},
		{"range", `[33]`},
		{"range", `[-` + nines + `]`},
		{"range", `[` + nines + `]`},
		{"range", `[18446744073709551617]`},
		{"toint", `[""]`},
		{"toint", `["01"]`},
		{"toint", `["-0"]`},
		{"toint", `["+1"]`},
		{"toint", `[" 1"]`},
		{"toint", `["1 "]`},
		{"toint", `["1.0"]`},
		{"toint", `["1e3"]`},
		{"toint", `["0x1"]`},
		{"toint", `["\u0661"]`},
		{"toint", `["true"]`},
		{"toint", `["9` + nines + `"]`},
		{"toint", `["-1` + nines + `"]`},
	} {
		checkError(t, c.name, said(t, c.args).Items, api.ErrArgs)
	}
}

func TestNoFunction(t *testing.T) {
	for _, name := range []string{"", "nope", "Length", "LENGTH", "length ", " length", "length\x00", "len", "string", "toInt", "max(", "\xff", fullText} {
		checkError(t, name, nil, api.ErrFunc)
		checkError(t, name, []api.Value{value.Int(1)}, api.ErrFunc)
	}
}

// wrongValues aren't good.
func wrongValues() []api.Value {
	return []api.Value{
		{Kind: 7}, {Kind: -1}, {Kind: 1 << 62}, {Kind: -1 << 63},
		{Text: "x"}, {Kind: api.KUnknown, Bool: true}, {Kind: api.KInt}, {Kind: api.KInt, Text: "01"}, {Kind: api.KInt, Text: "1" + nines},
		{Kind: api.KString, Text: fullText + "x"}, {Kind: api.KList, Items: make([]api.Value, api.MaxValues)}, value.List(api.Value{Kind: 9}),
		{Kind: api.KObject, Keys: []string{"a"}}, {Kind: api.KObject, Items: make([]api.Value, 1)},
		{Kind: api.KObject, Keys: []string{"b", "a"}, Items: make([]api.Value, 2)}, {Kind: api.KObject, Keys: []string{"a", "a"}, Items: make([]api.Value, 2)},
	}
}

// TestOrderOfErrors has several things wrong at once: the first by the words under Functions is told.
func TestOrderOfErrors(t *testing.T) {
	unknown, none := value.Unknown(), value.Null()
	for _, wrong := range wrongValues() {
		for _, name := range append(Names(), "nope", "") {
			for _, args := range [][]api.Value{{wrong}, {unknown, wrong}, {wrong, unknown}, {none, none, none, none, wrong}, {value.Text("a"), wrong, value.Int(-1)}} {
				checkError(t, name, args, api.ErrRange)
			}
		}
	}
	within := []api.Value{unknown, value.List(unknown), value.List(none, value.List(none, unknown)), value.Put(none, "a", value.List(unknown))}
	for _, hidden := range within {
		for _, args := range [][]api.Value{{hidden}, {none, hidden}, {hidden, none}, {none, none, none, none, none, hidden}, {value.Text("a"), value.Int(-1), hidden}, {value.Text(""), hidden}, {hidden, hidden}} {
			checkError(t, "nope", args, api.ErrFunc)
			for _, name := range Names() {
				checkAnswer(t, name, args, unknown)
			}
		}
	}
	big := value.Text(fullText)
	checkError(t, "join", []api.Value{big, value.List(big, big, big, value.Int(1))}, api.ErrArgs)
	checkError(t, "join", []api.Value{big, value.List(big, big), none}, api.ErrArgs)
	checkError(t, "concat", []api.Value{nulls(1999), nulls(1999), none}, api.ErrArgs)
	checkError(t, "merge", []api.Value{manyKeys(0, 1999), manyKeys(1999, 1999), nulls(1)}, api.ErrArgs)
	checkError(t, "split", []api.Value{value.Text("x"), big, big}, api.ErrArgs)
}
