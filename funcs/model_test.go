package funcs

import (
	"bytes"
	"fmt"
	"math/big"
	"math/rand"
	"slices"
	"strings"
	"testing"
	"unicode/utf8"

	"purlin/api"
	"purlin/value"
)

// pieces cuts a text into its runes from behind, otherwise than the package does, to be held beside it.
func pieces(text string) []string {
	var all []string
	for text != "" {
		width := 1
		for w := 2; w <= min(len(text), utf8.UTFMax); w++ {
			if last := text[len(text)-w:]; utf8.ValidString(last) && len([]rune(last)) == 1 {
				width = w
			}
		}
		all = append(all, text[len(text)-width:])
		text = text[:len(text)-width]
	}
	slices.Reverse(all)
	return all
}

func bigOf(v api.Value) *big.Int {
	n, _ := new(big.Int).SetString(v.Text, 10)
	return n
}

func ofBig(n *big.Int) api.Value { return api.Value{Kind: api.KInt, Text: n.String()} }

// cut answers what substr should: of whole numbers of any size.
func cut(text string, ahead, count *big.Int) string {
	said := ""
	end := new(big.Int).Add(ahead, count)
	for i, piece := range pieces(text) {
		if at := big.NewInt(int64(i)); at.Cmp(ahead) >= 0 && at.Cmp(end) < 0 {
			said += piece
		}
	}
	return said
}

func splitBy(between, text string) api.Value {
	items := []api.Value{}
	for {
		at := bytes.Index([]byte(text), []byte(between))
		if at < 0 {
			return value.List(append(items, value.Text(text))...)
		}
		items = append(items, value.Text(text[:at]))
		text = text[at+len(between):]
	}
}

// modelText answers for the functions of a text first; none of the arguments is out of place.
func modelText(name string, args []api.Value) (api.Value, api.Errno) {
	text := args[0].Text
	switch name {
	case "length":
		return value.Int(len(pieces(text))), api.OK
	case "upper":
		return value.Text(strings.NewReplacer("a", "A", "b", "B", "y", "Y", "z", "Z").Replace(text)), api.OK
	case "lower":
		return value.Text(strings.NewReplacer("A", "a", "B", "b", "Y", "y", "Z", "z").Replace(text)), api.OK
	case "reverse":
		all := pieces(text)
		slices.Reverse(all)
		return value.Text(strings.Join(all, "")), api.OK
	case "substr":
		ahead, count := bigOf(args[1]), bigOf(args[2])
		if ahead.Sign() < 0 || count.Sign() < 0 {
			return api.Value{}, api.ErrArgs
		}
		return value.Text(cut(text, ahead, count)), api.OK
	case "split":
		if text == "" {
			return api.Value{}, api.ErrArgs
		}
		return splitBy(text, args[1].Text), api.OK
	case "join":
		said := ""
		for i, item := range args[1].Items {
			if item.Kind != api.KString {
				return api.Value{}, api.ErrArgs
			}
			said += strings.Repeat(text, min(i, 1)) + item.Text
		}
		return value.Text(said), api.OK
	}
	return modelChange(name, args[0])
}

// modelChange answers for tostring and toint.
func modelChange(name string, v api.Value) (api.Value, api.Errno) {
	if name == "tostring" && v.Kind == api.KBool {
		return value.Text(fmt.Sprint(v.Bool)), api.OK
	}
	if name == "tostring" {
		return value.Text(v.Text), api.OK
	}
	n, ok := new(big.Int).SetString(v.Text, 10)
	if !ok || n.String() != v.Text || len(strings.Trim(v.Text, "-")) > api.MaxDigits {
		return api.Value{}, api.ErrArgs
	}
	return ofBig(n), api.OK
}

// modelNumbers answers for the functions of numbers alone.
func modelNumbers(name string, args []api.Value) (api.Value, api.Errno) {
	n := bigOf(args[0])
	switch name {
	case "abs":
		return ofBig(n.Abs(n)), api.OK
	case "range":
		list := value.List()
		if n.Sign() < 0 || n.Cmp(big.NewInt(32)) > 0 {
			return api.Value{}, api.ErrArgs
		}
		for i := int64(0); i < n.Int64(); i++ {
			list.Items = append(list.Items, ofBig(big.NewInt(i)))
		}
		return list, api.OK
	}
	for _, arg := range args {
		if name == "max" && bigOf(arg).Cmp(n) > 0 || name == "min" && bigOf(arg).Cmp(n) < 0 {
			n = bigOf(arg)
		}
	}
	return ofBig(n), api.OK
}

// modelLists answers for the functions of lists and objects.
func modelLists(name string, args []api.Value) (api.Value, api.Errno) {
	list, object := value.List(), api.Value{Kind: api.KObject}
	for i, arg := range args {
		for j, item := range arg.Items {
			switch {
			case name == "length":
				list.Items = append(list.Items, item)
			case name == "contains" && i == 0 && value.Cmp(item, args[1]) == 0:
				return value.Bool(true), api.OK
			case name == "reverse":
				list = value.List(append([]api.Value{item}, list.Items...)...)
			case name == "concat" || name == "values":
				list = value.List(append(list.Items, item)...)
			case name == "keys":
				list = value.List(append(list.Items, value.Text(arg.Keys[j]))...)
			case name == "lookup" && i == 0 && arg.Keys[j] == args[1].Text:
				return item, api.OK
			case name == "merge":
				object = value.Put(object, arg.Keys[j], item)
			}
		}
	}
	switch name {
	case "length":
		return value.Int(len(list.Items)), api.OK
	case "contains":
		return value.Bool(false), api.OK
	case "lookup":
		return args[2], api.OK
	case "merge":
		return object, api.OK
	}
	return list, api.OK
}

// model answers what Call should, of arguments of the kinds that the function takes.
func model(name string, args []api.Value) (api.Value, api.Errno) {
	for _, arg := range args {
		if !value.Known(arg) {
			return value.Unknown(), api.OK
		}
	}
	switch {
	case len(args) == 0 || args[0].Kind == api.KList || args[0].Kind == api.KObject:
		return modelLists(name, args)
	case name == "abs" || name == "range" || name == "max" || name == "min":
		return modelNumbers(name, args)
	}
	return modelText(name, args)
}

func pickText(r *rand.Rand) string {
	parts := []string{"a", "b", "y", "z", "A", "B", "Y", "Z", "@", "[", "`", "{", ",", ",", "-", "0", "1", "12", " ", "\x00", "\x7f", "\u00e9", "\u0301", "\u20ac", "\ufffd", "\uffff", "\U0001f600", "\xff", "\xc3", "\xa9", "\xe2\x82", "\xed\xa0\x80", "\xf0\x9f", "\xc0\x80"}
	text := ""
	for range r.Intn(7) {
		text += parts[r.Intn(len(parts))]
	}
	return text
}

func pickNumber(r *rand.Rand) api.Value {
	n := new(big.Int).Rand(r, []*big.Int{big.NewInt(5), big.NewInt(40), big.NewInt(1 << 40), new(big.Int).Lsh(big.NewInt(1), 66), new(big.Int).Exp(big.NewInt(10), big.NewInt(100), nil)}[r.Intn(5)])
	if r.Intn(4) == 0 {
		n.Neg(n)
	}
	return ofBig(n)
}

// pickOf answers a value of a letter of the chapter's table (0 is null, u an unknown).
func pickOf(r *rand.Rand, letter byte, depth int) api.Value {
	v := value.List()
	switch letter {
	case 'u':
		return value.Unknown()
	case 'b':
		return value.Bool(r.Intn(2) == 0)
	case 'n':
		return pickNumber(r)
	case 's':
		return value.Text(pickText(r))
	case 'l':
		kinds := []string{"s", "0bns0bnslo", "0bns0bnslo", "0bns0bnslo0bnslou"}[r.Intn(4)]
		for range r.Intn(5) {
			v.Items = append(v.Items, pickOf(r, pickLetter(r, kinds, depth), depth-1))
		}
		return v
	case 'o':
		v.Kind = api.KObject
		for range r.Intn(5) {
			v = value.Put(v, []string{"", "a", "b", "c", "\xff", pickText(r)}[r.Intn(6)], pickOf(r, pickLetter(r, "0bnslo", depth), depth-1))
		}
		return v
	}
	return value.Null()
}

func pickLetter(r *rand.Rand, kinds string, depth int) byte {
	letter := kinds[r.Intn(len(kinds))]
	if depth == 0 && (letter == 'l' || letter == 'o') {
		return 'n'
	}
	return letter
}

// pickArgs answers arguments of the kinds that a function takes.
func pickArgs(r *rand.Rand, name string) []api.Value {
	var args []api.Value
	for _, part := range signatures()[name] {
		kinds, more := strings.CutSuffix(part, "*")
		count := 1
		if more {
			count = r.Intn(5)
		}
		for range count {
			args = append(args, pickOf(r, kinds[r.Intn(len(kinds))], 3))
		}
	}
	if name == "lookup" && r.Intn(2) == 0 && len(args[0].Keys) > 0 {
		args[1] = value.Text(args[0].Keys[r.Intn(len(args[0].Keys))])
	}
	if name == "contains" && r.Intn(2) == 0 && len(args[0].Items) > 0 {
		args[1] = args[0].Items[r.Intn(len(args[0].Items))]
	}
	if name == "substr" && r.Intn(2) == 0 {
		args[1], args[2] = value.Int(r.Intn(6)), value.Int(r.Intn(6))
	}
	if name == "split" && r.Intn(2) == 0 {
		args[0] = value.Text([]string{",", "a", "\u00e9", "\xa9", "\xff", "ab"}[r.Intn(6)])
	}
	if name == "toint" && r.Intn(2) == 0 {
		args[0] = value.Text([]string{"", "-", "0", "00"}[r.Intn(4)] + pickNumber(r).Text)
	}
	return args
}

// TestPicked holds Call beside the model, function by function, of arguments as they are picked.
func TestPicked(t *testing.T) {
	r := rand.New(rand.NewSource(7))
	for _, name := range Names() {
		answers, refused := 0, 0
		for range 3000 {
			args := pickArgs(r, name)
			want, wantErr := model(name, args)
			got, err := Call(name, args)
			if err != wantErr || !value.Good(got) || !value.Equal(got, want) {
				t.Fatalf("P7.1: %s of %.300v: %v, %d, want %v, %d", name, args, got, err, want, wantErr)
			}
			if err == api.OK && got.Kind != api.KUnknown {
				answers++
			} else if err != api.OK {
				refused++
			}
		}
		if answers < 200 || strings.Contains(" substr join split range toint ", " "+name+" ") != (refused > 0) {
			t.Errorf("the picked arguments of %s tell too little: %d answers, %d refused", name, answers, refused)
		}
	}
}

// pickCall answers a call that may be right, or wrong in any way.
func pickCall(r *rand.Rand) (string, []api.Value) {
	names := append(Names(), "nope")
	name := names[r.Intn(len(names))]
	args := pickArgs(r, Names()[r.Intn(len(names)-1)])
	if r.Intn(2) == 0 && name != "nope" {
		args = pickArgs(r, name)
	}
	if r.Intn(8) == 0 {
		args = append(args, pickOf(r, "0bnslou"[r.Intn(7)], 2))
	}
	return name, args
}

// TestKnown wants a known answer of known arguments, the same one each time.
func TestKnown(t *testing.T) {
	r := rand.New(rand.NewSource(8))
	known, errors := 0, 0
	for range 30000 {
		name, args := pickCall(r)
		got, err := Call(name, args)
		again, errAgain := Call(name, args)
		if err != errAgain || !value.Equal(got, again) {
			t.Fatalf("P7.2: %s of %.300v: %v, %d, then %v, %d", name, args, got, err, again, errAgain)
		}
		unknown := slices.ContainsFunc(args, func(v api.Value) bool { return !value.Known(v) })
		switch {
		case err != api.OK:
			errors++
		case value.Known(got) == unknown || unknown && !value.Equal(got, value.Unknown()):
			t.Fatalf("P7.2: %s of %.300v: %v", name, args, got)
		case !unknown:
			known++
		}
	}
	if known < 5000 || errors < 5000 {
		t.Errorf("the picked calls tell too little: %d known, %d errors", known, errors)
	}
}
