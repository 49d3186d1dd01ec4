package funcs

import (
	"slices"
	"strings"
	"testing"

	"purlin/api"
	"purlin/jsonc"
	"purlin/value"
)

var (
	fullText = strings.Repeat("x", api.MaxText)
	nines    = strings.Repeat("9", api.MaxDigits)
)

// said answers the value of a JSON.
func said(t *testing.T, json string) api.Value {
	t.Helper()
	v, wrong := jsonc.Decode(json)
	if wrong != nil {
		t.Fatalf("%q is no JSON: %v", json, wrong)
	}
	return v
}

// checkAnswer wants an answer that is good and the same as want.
func checkAnswer(t *testing.T, name string, args []api.Value, want api.Value) {
	t.Helper()
	got, err := Call(name, args)
	if err != api.OK || !value.Good(got) || !value.Equal(got, want) {
		t.Errorf("P7.1: %s of %.300v: %.300v, %d, want %.300v", name, args, got, err, want)
	}
}

// checkError wants an error, and nothing beside it.
func checkError(t *testing.T, name string, args []api.Value, want api.Errno) {
	t.Helper()
	got, err := Call(name, args)
	if err != want || got.Kind != api.KNull || got.Bool || got.Text != "" || got.Items != nil || got.Keys != nil {
		t.Errorf("P7.1: %s of %.300v: %.300v, %d, want error %d", name, args, got, err, want)
	}
}

// asked is a call, its arguments and its answer as JSON.
type asked struct{ name, args, want string }

func textCalls() []asked {
	return []asked{
		{"length", `[""]`, `0`},
		{"length", `["abc"]`, `3`},
		{"length", `["\u00e9"]`, `1`},
		{"length", `["a\u00e9\u20ac\ud83d\ude00\u0000"]`, `5`},
		{"length", `["e\u0301"]`, `2`},
		{"length", `["\ufffd\ufffd"]`, `2`},
		{"upper", `[""]`, `""`},
		{"upper", `["azAZ@[` + "`" + `{09 \u00e9\u0131\u00df"]`, `"AZAZ@[` + "`" + `{09 \u00e9\u0131\u00df"`},
		{"lower", `[""]`, `""`},
		{"lower", `["azAZ@[` + "`" + `{09 \u00c9\u0130\u212a"]`, `"azaz@[` + "`" + `{09 \u00c9\u0130\u212a"`},
		{"reverse", `[""]`, `""`},
		{"reverse", `["a"]`, `"a"`},
		{"reverse", `["ab\u00e9\u20ac\ud83d\ude00c"]`, `"c\ud83d\ude00\u20ac\u00e9ba"`},
		{"reverse", `["e\u0301a"]`, `"a\u0301e"`},
		{"join", `["-",[]]`, `""`},
		{"join", `["-",["a"]]`, `"a"`},
		{"join", `["-",["a","","b"]]`, `"a--b"`},
		{"join", `["",["a","b"]]`, `"ab"`},
		{"join", `["\u00e9,",["\u00e9","b","a"]]`, `"\u00e9\u00e9,b\u00e9,a"`},
		{"split", `[",",""]`, `[""]`},
		{"split", `[",",","]`, `["",""]`},
		{"split", `[",","abc"]`, `["abc"]`},
		{"split", `[",","a,,b"]`, `["a","","b"]`},
		{"split", `[",",",a,"]`, `["","a",""]`},
		{"split", `["aa","aaaaa"]`, `["","","a"]`},
		{"split", `["ab","aabbab"]`, `["a","b",""]`},
		{"split", `["abc","ab"]`, `["ab"]`},
		{"split", `["\u00e9","a\u00e9b"]`, `["a","b"]`},
		{"split", `[".","a.b|c"]`, `["a","b|c"]`},
		{"tostring", `[true]`, `"true"`},
		{"tostring", `[false]`, `"false"`},
		{"tostring", `[0]`, `"0"`},
		{"tostring", `[-` + nines + `]`, `"-` + nines + `"`},
		{"tostring", `[""]`, `""`},
		{"tostring", `["\u00e9 true"]`, `"\u00e9 true"`},
	}
}

func substrCalls() []asked {
	return []asked{
		{"substr", `["abc",0,0]`, `""`},
		{"substr", `["abc",0,1]`, `"a"`},
		{"substr", `["abc",1,1]`, `"b"`},
		{"substr", `["abc",0,3]`, `"abc"`},
		{"substr", `["abc",0,4]`, `"abc"`},
		{"substr", `["abc",1,2]`, `"bc"`},
		{"substr", `["abc",1,9]`, `"bc"`},
		{"substr", `["abc",2,1]`, `"c"`},
		{"substr", `["abc",3,0]`, `""`},
		{"substr", `["abc",3,1]`, `""`},
		{"substr", `["abc",4,1]`, `""`},
		{"substr", `["",0,0]`, `""`},
		{"substr", `["",0,1]`, `""`},
		{"substr", `["",1,1]`, `""`},
		{"substr", `["a\u00e9\u20ac\ud83d\ude00b",1,3]`, `"\u00e9\u20ac\ud83d\ude00"`},
		{"substr", `["\ud83d\ude00\u20ac",1,1]`, `"\u20ac"`},
		{"substr", `["abc",1,9223372036854775807]`, `"bc"`},
		{"substr", `["abc",9223372036854775807,9223372036854775807]`, `""`},
		{"substr", `["abc",1,9223372036854775808]`, `"bc"`},
		{"substr", `["abc",18446744073709551616,1]`, `""`},
		{"substr", `["abc",18446744073709551617,18446744073709551617]`, `""`},
		{"substr", `["abc",1,18446744073709551616]`, `"bc"`},
		{"substr", `["abc",1,` + nines + `]`, `"bc"`},
		{"substr", `["abc",` + nines + `,` + nines + `]`, `""`},
	}
}

func listCalls() []asked {
	return []asked{
		{"length", `[[]]`, `0`},
		{"length", `[[null,[1,2],{"a":1}]]`, `3`},
		{"length", `[{}]`, `0`},
		{"length", `[{"b":[1,2],"a":null}]`, `2`},
		{"reverse", `[[]]`, `[]`},
		{"reverse", `[[1]]`, `[1]`},
		{"reverse", `[["ab",[1,2],null,{"a":1,"b":2}]]`, `[{"a":1,"b":2},null,[1,2],"ab"]`},
		{"concat", `[]`, `[]`},
		{"concat", `[[]]`, `[]`},
		{"concat", `[[1,"a"]]`, `[1,"a"]`},
		{"concat", `[[2,1],[],[1],[[3],null]]`, `[2,1,1,[3],null]`},
		{"contains", `[[],null]`, `false`},
		{"contains", `[[null],null]`, `true`},
		{"contains", `[[1,"1"],"1"]`, `true`},
		{"contains", `[[1],"1"]`, `false`},
		{"contains", `[["true"],true]`, `false`},
		{"contains", `[[false],true]`, `false`},
		{"contains", `[[0,10,-1],-1]`, `true`},
		{"contains", `[["abc"],"b"]`, `false`},
		{"contains", `[[[1,2]],[1,2]]`, `true`},
		{"contains", `[[[1,2]],[1]]`, `false`},
		{"contains", `[[[1,2]],1]`, `false`},
		{"contains", `[[1,2],[1,2]]`, `false`},
		{"contains", `[[{"a":1,"b":[2]}],{"b":[2],"a":1}]`, `true`},
		{"contains", `[[{"a":1,"b":[2]}],{"a":1}]`, `false`},
	}
}

func objectCalls() []asked {
	return []asked{
		{"keys", `[{}]`, `[]`},
		{"keys", `[{"b":1,"a":2,"":3,"B":{"c":4}}]`, `["","B","a","b"]`},
		{"values", `[{}]`, `[]`},
		{"values", `[{"b":1,"a":2,"":3,"B":{"c":4}}]`, `[3,{"c":4},2,1]`},
		{"lookup", `[{"a":1},"a",2]`, `1`},
		{"lookup", `[{"a":null},"a",2]`, `null`},
		{"lookup", `[{"a":1},"b",[2]]`, `[2]`},
		{"lookup", `[{},"a",null]`, `null`},
		{"lookup", `[{"a":{"b":1}},"b",false]`, `false`},
		{"lookup", `[{"":[1]},"",0]`, `[1]`},
		{"merge", `[]`, `{}`},
		{"merge", `[{}]`, `{}`},
		{"merge", `[{"b":1,"a":2}]`, `{"a":2,"b":1}`},
		{"merge", `[{"a":1},{"a":2}]`, `{"a":2}`},
		{"merge", `[{"a":1},{"a":2},{"a":null},{}]`, `{"a":null}`},
		{"merge", `[{"b":1,"d":1},{},{"a":2,"d":2,"e":2},{"c":3,"b":3}]`, `{"a":2,"b":3,"c":3,"d":2,"e":2}`},
		{"merge", `[{"a":{"x":1}},{"a":{"y":2}}]`, `{"a":{"y":2}}`},
	}
}

func numberCalls() []asked {
	return []asked{
		{"max", `[5]`, `5`},
		{"max", `[2,10,-3]`, `10`},
		{"max", `[10,2]`, `10`},
		{"max", `[-10,-2]`, `-2`},
		{"max", `[0,0,0]`, `0`},
		{"max", `[-` + nines + `,` + nines + `,1]`, nines},
		{"max", `[9223372036854775808,9223372036854775809]`, `9223372036854775809`},
		{"min", `[5]`, `5`},
		{"min", `[2,10,-3]`, `-3`},
		{"min", `[2,10]`, `2`},
		{"min", `[-2,-10]`, `-10`},
		{"min", `[1,-` + nines + `,` + nines + `]`, `-` + nines},
		{"abs", `[0]`, `0`},
		{"abs", `[7]`, `7`},
		{"abs", `[-7]`, `7`},
		{"abs", `[-9223372036854775808]`, `9223372036854775808`},
		{"abs", `[-` + nines + `]`, nines},
		{"range", `[0]`, `[]`},
		{"range", `[1]`, `[0]`},
		{"range", `[3]`, `[0,1,2]`},
		{"range", `[32]`, `[0,1,2,3,4,5,6,7,8,9,10,11,12,13,14,15,16,17,18,19,20,21,22,23,24,25,26,27,28,29,30,31]`},
		{"toint", `[0]`, `0`},
		{"toint", `[-` + nines + `]`, `-` + nines},
		{"toint", `["0"]`, `0`},
		{"toint", `["-12"]`, `-12`},
		{"toint", `["` + nines + `"]`, nines},
		{"toint", `["-` + nines + `"]`, `-` + nines},
	}
}

func TestAnswers(t *testing.T) {
	for _, c := range slices.Concat(textCalls(), substrCalls(), listCalls(), objectCalls(), numberCalls()) {
		checkAnswer(t, c.name, said(t, c.args).Items, said(t, c.want))
	}
}

// TestNoUTF8 has bytes at which no rune begins: each is a rune by itself, and stays as it is.
func TestNoUTF8(t *testing.T) {
	const broken = "a\xff\xe2\x82b\xed\xa0\x80\xc0\x80\xf4\x90\x80\x80\u00e9Z" // cut off; a half of a pair; too long a form; above 10FFFF
	text, of := value.Text, func(n ...int) []api.Value {
		args := []api.Value{value.Text(broken)}
		for _, k := range n {
			args = append(args, value.Int(k))
		}
		return args
	}
	checkAnswer(t, "length", of(), value.Int(16))
	checkAnswer(t, "reverse", of(), text("Z\u00e9\x80\x80\x90\xf4\x80\xc0\x80\xa0\xedb\x82\xe2\xffa"))
	checkAnswer(t, "upper", of(), text("A\xff\xe2\x82B\xed\xa0\x80\xc0\x80\xf4\x90\x80\x80\u00e9Z"))
	checkAnswer(t, "lower", of(), text("a\xff\xe2\x82b\xed\xa0\x80\xc0\x80\xf4\x90\x80\x80\u00e9z"))
	checkAnswer(t, "tostring", of(), text(broken))
	checkAnswer(t, "substr", of(1, 2), text("\xff\xe2"))
	checkAnswer(t, "substr", of(13, 2), text("\x80\u00e9"))
	checkAnswer(t, "substr", of(14, 1), text("\u00e9"))
	checkAnswer(t, "substr", of(15, 9), text("Z"))
	checkAnswer(t, "length", []api.Value{text("\xff\ufffd\xff")}, value.Int(3))
	checkAnswer(t, "reverse", []api.Value{text("\xa9\xc3")}, text("\u00e9"))
	checkAnswer(t, "reverse", []api.Value{text("\xff\ufffd\xfe")}, text("\xfe\ufffd\xff"))
	checkAnswer(t, "join", []api.Value{text("\xa9"), value.List(text("\xc3"), text("\xff"))}, text("\u00e9\xff"))
	checkAnswer(t, "split", []api.Value{text("\xff"), text("a\xff\xfe")}, value.List(text("a"), text("\xfe")))
	checkAnswer(t, "contains", []api.Value{value.List(text("\xff")), text("\ufffd")}, value.Bool(false))
}

// TestSplitBytes has pieces between what begins within a rune: texts are bytes, and nothing says that runes are wanted here.
func TestSplitBytes(t *testing.T) {
	checkAnswer(t, "split", []api.Value{value.Text("\xa9"), value.Text("a\u00e9b")}, value.List(value.Text("a\xc3"), value.Text("b")))
}

func TestNames(t *testing.T) {
	want := []string{"abs", "concat", "contains", "join", "keys", "length", "lookup", "lower", "max", "merge", "min", "range", "reverse", "split", "substr", "toint", "tostring", "upper", "values"}
	first := Names()
	if !slices.Equal(first, want) {
		t.Errorf("P7.1: Names: %v, want %v", first, want)
	}
	for i := range first[:cap(first)] {
		first[:cap(first)][i] = "spoilt"
	}
	if again := Names(); !slices.Equal(again, want) {
		t.Errorf("P7.3: Names, behind an answer that was written over: %v", again)
	}
}
