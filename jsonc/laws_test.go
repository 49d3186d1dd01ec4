package jsonc

import (
	"fmt"
	"math/rand"
	"strings"
	"testing"
	"unicode/utf16"

	"purlin/api"
	"purlin/value"
)

// pickText answers a text of runes that are written in different ways.
func pickText(r *rand.Rand) string {
	runes := []rune{'a', 'b', 'n', 'u', '0', ' ', '/', '"', '\\', '\b', '\f', '\n', '\r', '\t', 0, 1, 0x1f, 0x7f, 0x80, 0xe9, 0x7ff, 0x800, 0x2028, 0xd7ff, 0xe000, 0xfffd, 0xffff, 0x10000, 0x1f600, 0x10ffff}
	var text []rune
	for range r.Intn(5) {
		text = append(text, runes[r.Intn(len(runes))])
	}
	return string(text)
}

// pickValue answers a good value, known, that has a JSON.
func pickValue(r *rand.Rand, depth int) api.Value {
	kinds := 7
	if depth == 0 {
		kinds = 4
	}
	switch r.Intn(kinds) {
	case 0:
		return value.Null()
	case 1:
		return value.Bool(r.Intn(2) == 0)
	case 2:
		return number([]string{"0", "7", "-1", "10", "-20", "9223372036854775808", strings.Repeat("9", 100), "-1" + strings.Repeat("0", 99)}[r.Intn(8)])
	case 3:
		return value.Text(pickText(r))
	case 4:
		return nested(r.Intn(3), pickValue(r, depth-1))
	case 5:
		v := value.List()
		for range r.Intn(4) {
			v = value.List(append(v.Items, pickValue(r, depth-1))...)
		}
		return v
	}
	v := object(nil)
	for range r.Intn(4) {
		v = value.Put(v, pickText(r), pickValue(r, depth-1))
	}
	return v
}

func pickValues(n int) []api.Value {
	r := rand.New(rand.NewSource(3))
	var values []api.Value
	for range n {
		values = append(values, pickValue(r, 4))
	}
	return values
}

// written answers a value's JSON byte by byte, as the chapter's words have it.
func written(v api.Value) string {
	var parts []string
	switch v.Kind {
	case api.KBool:
		return fmt.Sprint(v.Bool)
	case api.KInt:
		return v.Text
	case api.KString:
		return writtenText(v.Text)
	case api.KList:
		for _, item := range v.Items {
			parts = append(parts, written(item))
		}
		return "[" + strings.Join(parts, ",") + "]"
	case api.KObject:
		for i, key := range v.Keys {
			parts = append(parts, writtenText(key)+":"+written(v.Items[i]))
		}
		return "{" + strings.Join(parts, ",") + "}"
	}
	return "null"
}

func writtenText(text string) string {
	json := `"`
	short := map[byte]string{8: `\b`, 12: `\f`, 10: `\n`, 13: `\r`, 9: `\t`, 34: `\"`, 92: `\\`}
	for _, b := range []byte(text) {
		switch {
		case short[b] != "":
			json += short[b]
		case b < 32:
			json += fmt.Sprintf(`\u%04x`, b)
		default:
			json += string([]byte{b})
		}
	}
	return json + `"`
}

// spelled answers one of the texts whose value is v: with blanks, keys in any order, and runes in any of their forms.
func spelled(r *rand.Rand, v api.Value) string {
	blank := func() string { return []string{"", "", "", " ", "\t", "\n\r ", "  "}[r.Intn(7)] }
	var parts []string
	text := written(v)
	switch v.Kind {
	case api.KInt:
		if v.Text == "0" && r.Intn(2) == 0 {
			text = "-0"
		}
	case api.KString:
		text = spelledText(r, v.Text)
	case api.KList:
		for _, item := range v.Items {
			parts = append(parts, spelled(r, item))
		}
		text = "[" + blank() + strings.Join(parts, ",") + "]"
	case api.KObject:
		for _, place := range r.Perm(len(v.Keys)) {
			parts = append(parts, blank()+spelledText(r, v.Keys[place])+blank()+":"+spelled(r, v.Items[place]))
		}
		text = "{" + blank() + strings.Join(parts, ",") + "}"
	}
	return blank() + text + blank()
}

func spelledText(r *rand.Rand, text string) string {
	json := `"`
	for _, c := range text {
		units := ""
		for _, unit := range utf16.Encode([]rune{c}) {
			units += fmt.Sprintf([]string{`\u%04x`, `\u%04X`}[r.Intn(2)], unit)
		}
		plain := strings.Trim(writtenText(string(c)), `"`)
		if c == '"' {
			plain = `\"`
		}
		if c == '/' && r.Intn(2) == 0 {
			plain = `\/`
		}
		json += []string{plain, plain, units}[r.Intn(3)]
	}
	return json + `"`
}

func TestThereAndBack(t *testing.T) {
	for _, v := range pickValues(3000) {
		text, err := Encode(v)
		if err != api.OK || text != written(v) {
			t.Fatalf("P3.1: Encode(%v): %q, %d, want %q", v, text, err, written(v))
		}
		back, wrong := Decode(text)
		if wrong != nil || !value.Equal(back, v) || !value.Good(back) {
			t.Fatalf("P3.2: %v is encoded as %q, and that decoded as %v, %v", v, text, back, wrong)
		}
	}
}

func TestBackAndThere(t *testing.T) {
	r := rand.New(rand.NewSource(4))
	for _, v := range pickValues(3000) {
		text := spelled(r, v)
		got, wrong := Decode(text)
		if wrong != nil || !value.Equal(got, v) || !value.Good(got) {
			t.Fatalf("P3.1: Decode(%q): %v, %v, want %v", text, got, wrong, v)
		}
		if again, err := Encode(got); err != api.OK || again != written(v) {
			t.Fatalf("P3.2: %q is decoded, and that encoded as %q, %d", text, again, err)
		}
	}
}

// TestGreatThereAndBack has values at the limits: each has a JSON, which isn't longer than the text that it is decoded from.
func TestGreatThereAndBack(t *testing.T) {
	full := value.Text(fullText)
	for name, v := range map[string]api.Value{
		"depth":       nested(23, value.Text("x")),
		"values":      nulls(1999),
		"a text":      full,
		"a key":       object([]string{fullText}, value.Null()),
		"all bytes":   value.List(full, full, full, value.Text(fullText[:api.MaxText-13])),
		"all escapes": value.Text(strings.Repeat("\x1f", 10922)),
		"digits":      value.List(copies(600, number("-"+strings.Repeat("9", 100)))...),
	} {
		text, err := Encode(v)
		back, wrong := Decode(text)
		if err != api.OK || wrong != nil || !value.Equal(back, v) {
			t.Errorf("P3.2: %s: %d, %v", name, err, wrong)
		}
	}
	for _, part := range []string{"\x7f", "\u00e9", "\uffff", "\U0001f600", `\/`, `\"`, `\\`, `\b`, `\u0008`, `\u0000`, `\u001f`, `\u0022`, `\u005C`, `\u00e9`, `\uffff`, `\ud83d\ude00`} {
		one, _ := Decode(`"` + part + `"`)
		n := min((api.MaxJSON-2)/len(part), api.MaxText/len(one.Text))
		text := `"` + strings.Repeat(part, n) + `"`
		v, wrong := Decode(text)
		again, err := Encode(v)
		back, wrongBack := Decode(again)
		if wrong != nil || err != api.OK || wrongBack != nil || !value.Equal(back, v) || len(again) > len(text) || len(v.Text) != n*len(one.Text) {
			t.Errorf("P3.2: many %s: %v, %d, %v", part, wrong, err, wrongBack)
		}
	}
}
