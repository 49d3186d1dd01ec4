package jsonc

import (
	"encoding/json"
	"math/rand"
	"regexp"
	"strings"
	"testing"
	"unicode/utf8"

	"purlin/api"
	"purlin/value"
)

// model tells by a stack of what may stand next, and by expressions, what is wrong with a text. It is built otherwise than the package, to be held beside it.
type model struct {
	text  string
	at    int
	begun int
	next  []byte // v: a value; V: it, or ]; l: a comma, or ]; k: a key; K: it, or }; : a colon; o: a comma, or }
	keys  []map[string]struct{}
}

var (
	blankPart  = regexp.MustCompile(`^[ \t\n\r]*`)
	wordPart   = regexp.MustCompile(`^(?:null|true|false)`)
	numberPart = regexp.MustCompile(`^-?(?:0|[1-9][0-9]*)`)
	behindPart = regexp.MustCompile(`^[0-9.eE]`)
	// textPart is as much of a text as is right.
	textPart = regexp.MustCompile(`^"(?:[^"\\\x00-\x1f]|\\["\\/bfnrt]|\\u(?:[0-9a-ce-fA-CE-F][0-9a-fA-F]{3}|[dD][0-7][0-9a-fA-F]{2})|\\u[dD][89abAB][0-9a-fA-F]{2}\\u[dD][c-fC-F][0-9a-fA-F]{2})*`)
)

func (m *model) depth() int { return len(m.keys) + strings.Count(string(m.next), "l") + 1 }

// quoted goes behind a text, and answers it, or its error.
func (m *model) quoted() (string, api.Errno, int) {
	good := m.at // behind what is UTF-8
	for good < len(m.text) {
		r, width := utf8.DecodeRuneInString(m.text[good:])
		if r == utf8.RuneError && width == 1 {
			break
		}
		good += width
	}
	end := m.at + len(textPart.FindString(m.text[m.at:good]))
	if end == good && good < len(m.text) {
		return "", api.ErrText, end
	}
	if end == len(m.text) || m.text[end] != '"' {
		return "", api.ErrJSON, end
	}
	var text string
	if json.Unmarshal([]byte(m.text[m.at:end+1]), &text) != nil || len(text) > api.MaxText {
		return "", api.ErrLong, m.at
	}
	m.at = end + 1
	return text, api.OK, 0
}

// value goes behind one, or behind the sign that opens it.
func (m *model) value() (api.Errno, int) {
	rest := m.text[m.at:]
	switch {
	case m.depth() > api.MaxDepth:
		return api.ErrDeep, m.at
	case m.begun >= api.MaxValues:
		return api.ErrLong, m.at
	case strings.HasPrefix(rest, `"`):
		_, code, at := m.quoted()
		m.begun++
		return code, at
	case strings.HasPrefix(rest, "["):
		m.next = append(m.next, 'l', 'V')
		m.at++
	case strings.HasPrefix(rest, "{"):
		m.next = append(m.next, 'o', 'K')
		m.keys = append(m.keys, map[string]struct{}{})
		m.at++
	case wordPart.MatchString(rest):
		m.at += len(wordPart.FindString(rest))
	case numberPart.MatchString(rest):
		return m.number(numberPart.FindString(rest))
	case strings.HasPrefix(rest, "-"):
		return api.ErrJSON, m.at + 1
	default:
		return api.ErrJSON, m.at
	}
	m.begun++
	return api.OK, 0
}

func (m *model) number(text string) (api.Errno, int) {
	if len(strings.TrimPrefix(text, "-")) > api.MaxDigits {
		return api.ErrLong, m.at
	}
	m.at += len(text)
	m.begun++
	if behindPart.MatchString(m.text[m.at:]) {
		return api.ErrJSON, m.at
	}
	return api.OK, 0
}

// key goes behind one that is new.
func (m *model) key() (api.Errno, int) {
	begin := m.at
	key, code, at := m.quoted()
	if code != api.OK {
		return code, at
	}
	seen := m.keys[len(m.keys)-1]
	if _, twice := seen[key]; twice {
		return api.ErrTwice, begin
	}
	seen[key] = struct{}{}
	m.next = append(m.next, ':')
	return api.OK, 0
}

// step goes behind what may stand next by the top of the stack.
func (m *model) step() (api.Errno, int) {
	want := m.next[len(m.next)-1]
	m.next = m.next[:len(m.next)-1]
	sign := byte(0)
	if m.at < len(m.text) {
		sign = m.text[m.at]
	}
	switch {
	case sign == ']' && strings.IndexByte("Vl", want) >= 0:
		if want == 'V' {
			m.next = m.next[:len(m.next)-1]
		}
		m.at++
	case sign == '}' && strings.IndexByte("Ko", want) >= 0:
		if want == 'K' {
			m.next = m.next[:len(m.next)-1]
		}
		m.keys = m.keys[:len(m.keys)-1]
		m.at++
	case want == 'v' || want == 'V':
		return m.value()
	case sign == '"' && strings.IndexByte("kK", want) >= 0:
		return m.key()
	case sign == ':' && want == ':':
		m.next = append(m.next, 'v')
		m.at++
	case sign == ',' && want == 'l':
		m.next = append(m.next, 'l', 'v')
		m.at++
	case sign == ',' && want == 'o':
		m.next = append(m.next, 'o', 'k')
		m.at++
	default:
		return api.ErrJSON, m.at
	}
	return api.OK, 0
}

func modelFault(text string) (api.Errno, int) {
	if len(text) > api.MaxJSON {
		return api.ErrLong, 0
	}
	m := &model{text: text, next: []byte{'v'}}
	for {
		m.at += len(blankPart.FindString(text[m.at:]))
		if len(m.next) == 0 {
			break
		}
		if code, at := m.step(); code != api.OK {
			return code, at
		}
	}
	if m.at < len(text) {
		return api.ErrJSON, m.at
	}
	return api.OK, 0
}

// modelValue answers the value of a text that is right, as the library reads it.
func modelValue(text string) api.Value {
	decoder := json.NewDecoder(strings.NewReader(text))
	decoder.UseNumber()
	var read any
	if err := decoder.Decode(&read); err != nil {
		panic(err)
	}
	return fromAny(read)
}

func fromAny(read any) api.Value {
	switch x := read.(type) {
	case bool:
		return value.Bool(x)
	case json.Number:
		return number(strings.Replace(string(x), "-0", "0", 1))
	case string:
		return value.Text(x)
	case []any:
		v := value.List()
		for _, item := range x {
			v.Items = append(v.Items, fromAny(item))
		}
		return v
	case map[string]any:
		var keys []string
		var items []api.Value
		for key, item := range x {
			keys, items = append(keys, key), append(items, fromAny(item))
		}
		return object(keys, items...)
	}
	return value.Null()
}

// checkBeside holds Decode beside the model; it answers the model's error.
func checkBeside(t *testing.T, text string) api.Errno {
	t.Helper()
	code, at := modelFault(text)
	v, wrong := Decode(text)
	switch {
	case code == api.OK && (wrong != nil || !value.Good(v) || !value.Equal(v, modelValue(text))):
		t.Fatalf("P3.1: Decode(%q): %.200v, %+v", text, v, wrong)
	case code != api.OK && (wrong == nil || *wrong != (api.Diag{Code: code, At: at})):
		t.Fatalf("P3.1: Decode(%q): %+v, want %d at %d", text, wrong, code, at)
	}
	return code
}

// TestPickedTexts has texts of parts as they are picked, few of them right.
func TestPickedTexts(t *testing.T) {
	parts := []string{"[", "[", "]", "]", "{", "{", "}", "}", ",", ",", ":", ":", " ", "\n", `"a"`, `"a":`, `"b":`, `"\u0061":`, `"`, "a", "0", "1", "-", "12", ".", "e", "null", "true", "fals", "\\", `\n`, `\u`, "00e9", `\ud83d`, `\ude00`, "\u00e9", "\xc3", "\x01", "\u2028"}
	heads := []string{"", "", "[", "{", `"`, `{"a":`, `{"a":1,`, strings.Repeat("[", 22), strings.Repeat(`{"a":[`, 11)}
	long := []string{"[" + strings.Repeat("1,", 1996), `"` + fullText[2:]}
	r := rand.New(rand.NewSource(1))
	seen := map[api.Errno]int{}
	for i := range 60000 {
		text := heads[r.Intn(len(heads))]
		if i%100 == 0 {
			text = long[r.Intn(len(long))]
		}
		for range r.Intn(9) {
			text += parts[r.Intn(len(parts))]
		}
		seen[checkBeside(t, text)]++
	}
	for _, code := range []api.Errno{api.OK, api.ErrJSON, api.ErrText, api.ErrDeep, api.ErrLong, api.ErrTwice} {
		if seen[code] < 20 {
			t.Errorf("picked texts with error %d: %d alone", code, seen[code])
		}
	}
}

// TestSpoiltTexts has texts that are right, but for a byte or two.
func TestSpoiltTexts(t *testing.T) {
	const bytes = "[]{},:\"\\ \n0123456789-.eEabfnrtu/\x00\x1f\x7f\x80\xc3\xed\xff"
	r := rand.New(rand.NewSource(2))
	seen := map[api.Errno]int{}
	for _, v := range pickValues(3000) {
		text := []byte(spelled(r, v))
		for range r.Intn(3) {
			at, b := r.Intn(len(text)), bytes[r.Intn(len(bytes))]
			switch r.Intn(4) {
			case 0:
				text[at] = b
			case 1:
				text = append(text[:at:at], append([]byte{b}, text[at:]...)...)
			case 2:
				text = append(text[:at:at], text[min(len(text), at+1+r.Intn(4)):]...)
			case 3:
				text = append(text[:at:at], append([]byte(string(text[r.Intn(at+1):at])), text[at:]...)...)
			}
			text = append(text, ' ')
		}
		seen[checkBeside(t, string(text))]++
	}
	if seen[api.OK] < 300 || seen[api.ErrJSON] < 300 {
		t.Errorf("texts without a fault: %d, with one: %d", seen[api.OK], seen[api.ErrJSON])
	}
}
