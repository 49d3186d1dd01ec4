package jsonc

import (
	"strconv"
	"strings"
	"testing"

	"purlin/api"
	"purlin/value"
)

func TestDecode(t *testing.T) {
	nines := strings.Repeat("9", api.MaxDigits)
	for text, want := range map[string]api.Value{
		"null":                             value.Null(),
		"true":                             value.Bool(true),
		"false":                            value.Bool(false),
		"0":                                value.Int(0),
		"-0":                               value.Int(0),
		"[-0,0,-0]":                        value.List(value.Int(0), value.Int(0), value.Int(0)),
		"7":                                value.Int(7),
		"-10":                              value.Int(-10),
		"9223372036854775808":              number("9223372036854775808"),
		nines:                              number(nines),
		"-" + nines:                        number("-" + nines),
		`""`:                               value.Text(""),
		`"a b"`:                            value.Text("a b"),
		`"[1,{}]"`:                         value.Text("[1,{}]"),
		`"\"\\\/\b\f\n\r\t"`:               value.Text("\"\\/\b\f\n\r\t"),
		`"/"`:                              value.Text("/"),
		`"\\n\\u0041\\"`:                   value.Text(`\n\u0041\`),
		`"\u0000\u001f\u0020\u007f"`:       value.Text("\x00\x1f \x7f"),
		`"\u0041\u00e9\u00E9\u20ac"`:       value.Text("A\u00e9\u00e9\u20ac"),
		`"\u004"`[:6] + `1"`:               value.Text("A"),
		`"\u00411"`:                        value.Text("A1"),
		`"\uabcd\uABCD\uefEF"`:             value.Text("\uabcd\uabcd\uefef"),
		`"\ud7ff\ue000\ufffd\uffff"`:       value.Text("\ud7ff\ue000\ufffd\uffff"),
		`"\ud83d\ude00"`:                   value.Text("\U0001f600"),
		`"\uD83D\uDE00x"`:                  value.Text("\U0001f600x"),
		`"\ud800\udc00\udbff\udfff"`:       value.Text("\U00010000\U0010ffff"),
		`"\ud800\udfff\udbff\udc00"`:       value.Text("\U000103ff\U0010fc00"),
		"\"\x7f\u0080\u07ff\u0800\"":       value.Text("\x7f\u0080\u07ff\u0800"),
		"\"\ud7ff\ue000\ufffd\uffff\"":     value.Text("\ud7ff\ue000\ufffd\uffff"),
		"\"\U00010000\U0010ffff\ufeff\"":   value.Text("\U00010000\U0010ffff\ufeff"),
		"[]":                               value.List(),
		"[ \t\r\n]":                        value.List(),
		"[null]":                           value.List(value.Null()),
		" [ 1 , [ ] , \"\" ] ":             value.List(value.Int(1), value.List(), value.Text("")),
		"[[],{}]":                          value.List(value.List(), object(nil)),
		"{}":                               object(nil),
		"{\n}":                             object(nil),
		`{"a":1}`:                          object([]string{"a"}, value.Int(1)),
		`{"":{"":""}}`:                     object([]string{""}, object([]string{""}, value.Text(""))),
		`{"b":1,"a":2,"B":3}`:              object([]string{"B", "a", "b"}, value.Int(3), value.Int(2), value.Int(1)),
		`{"2":1,"10":2}`:                   object([]string{"10", "2"}, value.Int(2), value.Int(1)),
		`{"a":{"a":1},"b":{"a":1}}`:        object([]string{"a", "b"}, object([]string{"a"}, value.Int(1)), object([]string{"a"}, value.Int(1))),
		`{"\u0061\n":[]}`:                  object([]string{"a\n"}, value.List()),
		" \t\r\n{ \"a\"\n:\r1\t, \"b\":2}": object([]string{"a", "b"}, value.Int(1), value.Int(2)),
		"\r\n true\t":                      value.Bool(true),
		` {"b" : [1, null], "a":"x\n"}`:    object([]string{"a", "b"}, value.Text("x\n"), value.List(value.Int(1), value.Null())),
	} {
		got, wrong := Decode(text)
		if wrong != nil || !value.Equal(got, want) || !value.Good(got) {
			t.Errorf("P3.1: Decode(%q): %v, %v, want %v", text, got, wrong, want)
		}
	}
}

// TestDecodeLimits has values at the limits, and of each one more.
func TestDecodeLimits(t *testing.T) {
	control := strings.Repeat(`\u0001`, 10922) // 65532 bytes
	pairs := strings.Repeat(`\ud83d\ude00`, api.MaxText/4)
	for name, text := range map[string]string{
		"24 lists":                   strings.Repeat("[", 24) + strings.Repeat("]", 24),
		"24 lists, blanks":           strings.Repeat("[ ", 24) + strings.Repeat("] ", 24),
		"23 lists and a number":      strings.Repeat("[", 23) + "5" + strings.Repeat("]", 23),
		"24 objects":                 strings.Repeat(`{"a":`, 23) + "{}" + strings.Repeat("}", 23),
		"deep, beside":               "[" + strings.Repeat("[", 23) + strings.Repeat("]", 23) + ",1,[[]]]",
		"2000 values":                "[" + strings.Repeat("1,", 1998) + "1]",
		"2000 values, the last one":  "[" + strings.Repeat("1,", 1998) + "[]]",
		"2000 values, in two":        "[[" + strings.Repeat("1,", 996) + "1],[" + strings.Repeat("1,", 999) + "1]]",
		"a full text":                `"` + fullText + `"`,
		"a full key":                 `{"` + fullText + `":1}`,
		"a full text of runes":       `"` + strings.Repeat("\u00e9", api.MaxText/2) + `"`,
		"a full text of pairs":       `"` + pairs + `"`,
		"a text of escapes":          `"` + control + `"`,
		"all bytes, blanks":          strings.Repeat(" ", api.MaxJSON-1) + "1",
		"all bytes, blanks behind":   "1" + strings.Repeat("\n", api.MaxJSON-1),
		"all bytes, of texts":        `["` + fullText + `","` + fullText + `","` + fullText + `","` + fullText[:api.MaxText-13] + `"]`,
		"100 digits, many":           "[" + strings.Repeat("-"+strings.Repeat("7", 100)+",", 600) + "1]",
		"100 digits and a 0":         "1" + strings.Repeat("0", 99),
		"keys as values":             `{"a":"a","b":"a"}`,
		"1999 keys":                  manyKeys(1999),
		"text of nearly a long text": `["` + fullText[1:] + `\n"]`,
	} {
		if v, wrong := Decode(text); wrong != nil || !value.Good(v) {
			t.Errorf("P3.1: Decode, %s: %v", name, wrong)
		}
	}
	ones := "[" + strings.Repeat("1,", 1999)
	checkFaults(t, []fault{
		{strings.Repeat("[", 25) + strings.Repeat("]", 25), api.ErrDeep, 24},
		{strings.Repeat("[", 24), api.ErrDeep, 24},
		{strings.Repeat("[", 24) + "  ", api.ErrDeep, 26},
		{strings.Repeat("[", 24) + " x", api.ErrDeep, 25},
		{strings.Repeat("[", 24) + ",", api.ErrDeep, 24},
		{strings.Repeat("[", 24) + "}", api.ErrDeep, 24},
		{strings.Repeat("[", 24) + "\xff", api.ErrDeep, 24},
		{strings.Repeat("[", 24) + "\n1", api.ErrDeep, 25},
		{strings.Repeat("[", 23) + "1,[[", api.ErrDeep, 26},
		{"[[]," + strings.Repeat("[", 30), api.ErrDeep, 27},
		{strings.Repeat("[", 23), api.ErrJSON, 23},
		{strings.Repeat("[", 24) + "]", api.ErrJSON, 25},
		{strings.Repeat(`{"a":`, 24) + "1", api.ErrDeep, 120},
		{strings.Repeat(`{"a":`, 24), api.ErrDeep, 120},
		{strings.Repeat(`{"a":`, 24) + " }", api.ErrDeep, 121},
		{strings.Repeat(`{"a":`, 23) + "{", api.ErrJSON, 116},
		{strings.Repeat(`{"a":`, 23) + "{1", api.ErrJSON, 116},
		{strings.Repeat(`{"a":`, 23) + `{"a"`, api.ErrJSON, 119},
		{strings.Repeat(`{"a":`, 23) + `{"a"1`, api.ErrJSON, 119},
		{ones + "1]", api.ErrLong, len(ones)},
		{ones + " \"", api.ErrLong, len(ones) + 1},
		{ones, api.ErrLong, len(ones)},
		{ones + " ", api.ErrLong, len(ones) + 1},
		{ones + "x", api.ErrLong, len(ones)},
		{ones + "]", api.ErrLong, len(ones)},
		{ones[:len(ones)-2] + "]", api.ErrJSON, len(ones) - 2},
		{ones[:len(ones)-1], api.ErrJSON, len(ones) - 1},
		{ones[:len(ones)-2] + "[ ", api.ErrLong, len(ones)},
		{ones[:len(ones)-2] + `{"a" `, api.ErrJSON, len(ones) + 3},
		{ones[:len(ones)-2] + `{"a": `, api.ErrLong, len(ones) + 4},
		{ones[:len(ones)-2] + strings.Repeat("[", 24), api.ErrLong, len(ones) - 1},
		{strings.Repeat("[", 22) + ones[:1+2*1976] + "[", api.ErrDeep, 22 + 1 + 2*1976 + 1},
		{manyKeys(2000), api.ErrLong, len(manyKeys(2000)) - 2},
		{`"` + fullText + `x"`, api.ErrLong, 0},
		{` ["` + fullText + `", "x` + fullText + `"`, api.ErrLong, len(fullText) + 6},
		{`{"x` + fullText + `" 1}`, api.ErrLong, 1},
		{`{"a":1,` + "\n" + `"x` + fullText + `":1}`, api.ErrLong, 8},
		{`"` + fullText[1:] + `\u00e9"`, api.ErrLong, 0},
		{`"` + pairs + ` "`, api.ErrLong, 0},
		{`"` + fullText + `xx`, api.ErrJSON, len(fullText) + 3},
		{`"` + fullText + "xx\n\"", api.ErrJSON, len(fullText) + 3},
		{`"` + fullText + `xx\ "`, api.ErrJSON, len(fullText) + 3},
		{`"` + fullText + "xx\xff\"", api.ErrText, len(fullText) + 3},
		{strings.Repeat("9", 101), api.ErrLong, 0},
		{" -" + strings.Repeat("9", 101), api.ErrLong, 1},
		{"[1, 1" + strings.Repeat("0", 100) + ".5", api.ErrLong, 4},
		{"[" + strings.Repeat("9", 100) + "e", api.ErrJSON, 101},
		{strings.Repeat(" ", api.MaxJSON) + "1", api.ErrLong, 0},
		{"1" + strings.Repeat(" ", api.MaxJSON), api.ErrLong, 0},
		{"x" + strings.Repeat("[", api.MaxJSON), api.ErrLong, 0},
		{strings.Repeat("\xff", api.MaxJSON+1), api.ErrLong, 0},
		{strings.Repeat(" ", api.MaxJSON), api.ErrJSON, api.MaxJSON},
	})
}

// manyKeys answers the JSON of an object of so many.
func manyKeys(n int) string {
	var keys []string
	for i := range n {
		keys = append(keys, `"`+strconv.Itoa(i)+`":1`)
	}
	return "{" + strings.Join(keys, ",") + "}"
}

type fault struct {
	text string
	code api.Errno
	at   int
}

// checkFaults wants each text's error, without a file, and a zero value beside it (R3).
func checkFaults(t *testing.T, faults []fault) {
	t.Helper()
	for _, c := range faults {
		v, wrong := Decode(c.text)
		if wrong == nil || *wrong != (api.Diag{Code: c.code, At: c.at}) {
			t.Errorf("P3.1: Decode(%.60q): %+v, want %d at %d", c.text, wrong, c.code, c.at)
		}
		if v.Kind != api.KNull || v.Bool || v.Text != "" || len(v.Items)+len(v.Keys) != 0 {
			t.Errorf("P7: Decode(%.60q): %v beside an error", c.text, v)
		}
	}
}

func TestNoValue(t *testing.T) {
	checkFaults(t, []fault{
		{"", api.ErrJSON, 0},
		{" \n", api.ErrJSON, 2},
		{"x", api.ErrJSON, 0},
		{" x", api.ErrJSON, 1},
		{"\x00", api.ErrJSON, 0},
		{"\xff", api.ErrJSON, 0},
		{"\u00a01", api.ErrJSON, 0},
		{"\ufeff1", api.ErrJSON, 0},
		{"\v1", api.ErrJSON, 0},
		{"\f1", api.ErrJSON, 0},
		{"nul", api.ErrJSON, 0},
		{"nulL", api.ErrJSON, 0},
		{"Null", api.ErrJSON, 0},
		{"[tru]", api.ErrJSON, 1},
		{"[fals", api.ErrJSON, 1},
		{"undefined", api.ErrJSON, 0},
		{"NaN", api.ErrJSON, 0},
		{"'a'", api.ErrJSON, 0},
		{"]", api.ErrJSON, 0},
		{"}", api.ErrJSON, 0},
		{",", api.ErrJSON, 0},
		{":", api.ErrJSON, 0},
		{"\\", api.ErrJSON, 0},
		{"nullx", api.ErrJSON, 4},
		{"nullnull", api.ErrJSON, 4},
		{"[true1]", api.ErrJSON, 5},
		{"false ,", api.ErrJSON, 6},
		{"null\x00", api.ErrJSON, 4},
		{"1 1", api.ErrJSON, 2},
		{"{}]", api.ErrJSON, 2},
		{"[]\xff", api.ErrJSON, 2},
		{"\"a\"\"b\"", api.ErrJSON, 3},
		{"1 // one", api.ErrJSON, 2},
		{"1\v", api.ErrJSON, 1},
		{"[]\n\u2028", api.ErrJSON, 3},
	})
}

func TestNoNumber(t *testing.T) {
	checkFaults(t, []fault{
		{"-", api.ErrJSON, 1},
		{"-x", api.ErrJSON, 1},
		{"--1", api.ErrJSON, 1},
		{"- 1", api.ErrJSON, 1},
		{"[-]", api.ErrJSON, 2},
		{"-\"", api.ErrJSON, 1},
		{"+1", api.ErrJSON, 0},
		{".5", api.ErrJSON, 0},
		{"-.5", api.ErrJSON, 1},
		{"00", api.ErrJSON, 1},
		{"01", api.ErrJSON, 1},
		{"-01", api.ErrJSON, 2},
		{"-00", api.ErrJSON, 2},
		{"[00]", api.ErrJSON, 2},
		{"1.5", api.ErrJSON, 1},
		{"0.0", api.ErrJSON, 1},
		{"-0.0", api.ErrJSON, 2},
		{"12.", api.ErrJSON, 2},
		{"1e5", api.ErrJSON, 1},
		{"10E5", api.ErrJSON, 2},
		{"0e0", api.ErrJSON, 1},
		{"[1,2.5]", api.ErrJSON, 4},
		{"[01]", api.ErrJSON, 2},
		{"{\"a\":007}", api.ErrJSON, 6},
		{"[12e,", api.ErrJSON, 3},
		{"{\"a\":-12e1}", api.ErrJSON, 8},
		{"1x", api.ErrJSON, 1},
		{"0x10", api.ErrJSON, 1},
		{"1_0", api.ErrJSON, 1},
		{"1-", api.ErrJSON, 1},
		{"[1-2]", api.ErrJSON, 2},
		{"\u0661", api.ErrJSON, 0},
		{"1\u0661", api.ErrJSON, 1},
	})
}

func TestNoText(t *testing.T) {
	checkFaults(t, []fault{
		{`"`, api.ErrJSON, 1},
		{`"a`, api.ErrJSON, 2},
		{"\"\u00e9", api.ErrJSON, 3},
		{`"a\"`, api.ErrJSON, 4},
		{`["a`, api.ErrJSON, 3},
		{`{"a`, api.ErrJSON, 3},
		{"\"\n\"", api.ErrJSON, 1},
		{"\"\t\"", api.ErrJSON, 1},
		{"\"a\x00", api.ErrJSON, 2},
		{"\"ab\x1f\"", api.ErrJSON, 3},
		{"\"a\n\xff\"", api.ErrJSON, 2},
		{"{\"\n\":1}", api.ErrJSON, 2},
		{`"\`, api.ErrJSON, 1},
		{`"a\`, api.ErrJSON, 2},
		{`"\x"`, api.ErrJSON, 1},
		{`"\U0041"`, api.ErrJSON, 1},
		{`"\N"`, api.ErrJSON, 1},
		{`"\'"`, api.ErrJSON, 1},
		{`"\0"`, api.ErrJSON, 1},
		{`"\a\n"`, api.ErrJSON, 1},
		{`"\n\v"`, api.ErrJSON, 3},
		{`"\ "`, api.ErrJSON, 1},
		{"\"\\\n\"", api.ErrJSON, 1},
		{"\"\\\xff\"", api.ErrJSON, 1},
		{"\"\\\u00e9\"", api.ErrJSON, 1},
		{`"\u`, api.ErrJSON, 1},
		{`"\u"`, api.ErrJSON, 1},
		{`"\u1`, api.ErrJSON, 1},
		{`"\u123`, api.ErrJSON, 1},
		{`"\u123"`, api.ErrJSON, 1},
		{`"\u12 4"`, api.ErrJSON, 1},
		{`"\u12g4"`, api.ErrJSON, 1},
		{`"\u+123"`, api.ErrJSON, 1},
		{`"\u-123"`, api.ErrJSON, 1},
		{`"\u1_23"`, api.ErrJSON, 1},
		{`"\u0x41"`, api.ErrJSON, 1},
		{`"\u{41}"`, api.ErrJSON, 1},
		{`"a\u00e9\u00"`, api.ErrJSON, 8},
		{`{"\u":1}`, api.ErrJSON, 2},
		{`"\ud800"`, api.ErrJSON, 1},
		{`"\ud800`, api.ErrJSON, 1},
		{`"\uD800\`, api.ErrJSON, 1},
		{`"\udbff\u"`, api.ErrJSON, 1},
		{`"\udbff\udc0"`, api.ErrJSON, 1},
		{`"\udbff\n"`, api.ErrJSON, 1},
		{`"\ud83dx\ude00"`, api.ErrJSON, 1},
		{`"\ud83d \ude00"`, api.ErrJSON, 1},
		{`"\ud83d\\ude00"`, api.ErrJSON, 1},
		{`"\ud83d\xde00"`, api.ErrJSON, 1},
		{`"\ud83d\u0041"`, api.ErrJSON, 1},
		{`"\ud83d\ud83d\ude00"`, api.ErrJSON, 1},
		{`"\ud800\udbff"`, api.ErrJSON, 1},
		{`"\ud800\ue000"`, api.ErrJSON, 1},
		{`"\udc00"`, api.ErrJSON, 1},
		{`"\uDFFF"`, api.ErrJSON, 1},
		{`"\udc00\ud800"`, api.ErrJSON, 1},
		{`"\udc00\udc00"`, api.ErrJSON, 1},
		{`"\ude00\ude00"`, api.ErrJSON, 1},
		{`"\ud7ff\udc00"`, api.ErrJSON, 7},
		{`"\ue000\udc00"`, api.ErrJSON, 7},
		{`"\ud83d\ude00\ude00"`, api.ErrJSON, 13},
		{`"aa\ud83d\ude00\ud83d"`, api.ErrJSON, 15},
		{"\"\\ud800\xff\"", api.ErrJSON, 1},
	})
	for bad, at := range noUTF8() {
		checkFaults(t, []fault{
			{`"` + bad + `"`, api.ErrText, at + 1},
			{`"` + bad, api.ErrText, at + 1},
			{`"\n` + bad + "\n", api.ErrText, at + 3},
			{"[1,\"\ufffd" + bad + `"]`, api.ErrText, at + 7},
			{`{"` + bad + `":1}`, api.ErrText, at + 2},
		})
	}
}

func TestNoList(t *testing.T) {
	checkFaults(t, []fault{
		{"[", api.ErrJSON, 1},
		{"[ ", api.ErrJSON, 2},
		{"[1", api.ErrJSON, 2},
		{"[1,", api.ErrJSON, 3},
		{"[1, ", api.ErrJSON, 4},
		{"[1,]", api.ErrJSON, 3},
		{"[1 , ]", api.ErrJSON, 5},
		{"[,", api.ErrJSON, 1},
		{"[,1]", api.ErrJSON, 1},
		{"[1,,2]", api.ErrJSON, 3},
		{"[1 2]", api.ErrJSON, 3},
		{"[1:2]", api.ErrJSON, 2},
		{"[1}", api.ErrJSON, 2},
		{"[}", api.ErrJSON, 1},
		{"[:", api.ErrJSON, 1},
		{"[\"a\":1]", api.ErrJSON, 4},
		{"[[1]", api.ErrJSON, 4},
		{"[[1,]]", api.ErrJSON, 4},
		{"[1;2]", api.ErrJSON, 2},
		{"[1\xff", api.ErrJSON, 2},
		{"[1\v,2]", api.ErrJSON, 2},
	})
}

func TestNoObject(t *testing.T) {
	checkFaults(t, []fault{
		{"{", api.ErrJSON, 1},
		{"{ ", api.ErrJSON, 2},
		{"{,}", api.ErrJSON, 1},
		{"{]", api.ErrJSON, 1},
		{"{1:2}", api.ErrJSON, 1},
		{"{a:1}", api.ErrJSON, 1},
		{"{'a':1}", api.ErrJSON, 1},
		{"{null:1}", api.ErrJSON, 1},
		{"{[]:1}", api.ErrJSON, 1},
		{`{"a"`, api.ErrJSON, 4},
		{`{"a" `, api.ErrJSON, 5},
		{`{"a"}`, api.ErrJSON, 4},
		{`{"a",`, api.ErrJSON, 4},
		{`{"a" 1}`, api.ErrJSON, 5},
		{`{"a"=1}`, api.ErrJSON, 4},
		{`{"a"::1}`, api.ErrJSON, 5},
		{`{"a":`, api.ErrJSON, 5},
		{`{"a": `, api.ErrJSON, 6},
		{`{"a":}`, api.ErrJSON, 5},
		{`{"a":,`, api.ErrJSON, 5},
		{`{"a":1`, api.ErrJSON, 6},
		{`{"a":1]`, api.ErrJSON, 6},
		{`{"a":1:`, api.ErrJSON, 6},
		{`{"a":1 "b":2}`, api.ErrJSON, 7},
		{`{"a":1,`, api.ErrJSON, 7},
		{`{"a":1, `, api.ErrJSON, 8},
		{`{"a":1,}`, api.ErrJSON, 7},
		{`{"a":1,,`, api.ErrJSON, 7},
		{`{"a":1,2`, api.ErrJSON, 7},
		{`{"a":{"b":1}`, api.ErrJSON, 12},
	})
}

func TestTwice(t *testing.T) {
	checkFaults(t, []fault{
		{`{"a":1,"a":2}`, api.ErrTwice, 7},
		{`{"a":1,"a":1}`, api.ErrTwice, 7},
		{`{"a":1, "a"`, api.ErrTwice, 8},
		{`{"a":1,"a" 2}`, api.ErrTwice, 7},
		{`{"":1,"":2}`, api.ErrTwice, 6},
		{`{"b":1,"a":2,"c":3,"a":4}`, api.ErrTwice, 19},
		{`{"b":1,"a":2,"c":3,"b":4}`, api.ErrTwice, 19},
		{`{"a":1,"\u0061":2}`, api.ErrTwice, 7},
		{`{"\ud83d\ude00":1,` + "\"\U0001f600\":2}", api.ErrTwice, 18},
		{`{"\/":1,"/":2}`, api.ErrTwice, 8},
		{`[{"a":1},{"b":2,"b":3},x]`, api.ErrTwice, 16},
		{`{"a":{"b":1,"b":2}}`, api.ErrTwice, 12},
		{`{"a":{"b":1},"a":2}`, api.ErrTwice, 13},
		{`{"a":1,"a`, api.ErrJSON, 9},
		{`{"a":1,"a\x":2}`, api.ErrJSON, 9},
		{`{"a":x,"a":2}`, api.ErrJSON, 5},
	})
}

// TestCut cuts a text at each of its bytes: it is wrong at its end, but where a word or an escape is cut, which is wrong where it begins.
func TestCut(t *testing.T) {
	text := ` { "k" : [ -12 , "\n` + "\u00e9" + `\ud83d\ude00" , { } , 0 ] , "" : "x" } `
	begins := func(n int) int {
		if pair := strings.Index(text, `\ud`); n > pair && n < pair+12 {
			return pair
		}
		if escape := strings.Index(text, `\n`); n == escape+1 {
			return escape
		}
		return n
	}
	for n := range len(text) - 1 {
		want := fault{text[:n], api.ErrJSON, begins(n)}
		if n == strings.Index(text, "\u00e9")+1 {
			want.code, want.at = api.ErrText, n-1
		}
		checkFaults(t, []fault{want})
	}
	for n, text := range map[int]string{1: "[nu", 3: "[1,fals", 5: `{"a":t`} {
		checkFaults(t, []fault{{text, api.ErrJSON, n}})
	}
}
