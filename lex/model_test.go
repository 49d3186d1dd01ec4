package lex

import (
	"math/rand"
	"regexp"
	"slices"
	"strings"
	"testing"
	"unicode/utf8"

	"purlin/api"
)

// The model tells a text's tokens by regular expressions, and where a text ends by a stack. It is built otherwise than the package, to be held beside it.
var (
	betweenPart = regexp.MustCompile(`^(?:[ \t\r]|#[^\n]*|//[^\n]*|/\*(?s:.*?)\*/)*`)
	namePart    = regexp.MustCompile(`^[a-zA-Z_][a-zA-Z0-9_-]*`)
	numberPart  = regexp.MustCompile(`^[0-9]+[a-zA-Z_]?`)
	goodNumber  = regexp.MustCompile(`^(?:0|[1-9][0-9]*)$`)
	heredocPart = regexp.MustCompile(`^<<([a-zA-Z_][a-zA-Z0-9_-]*)\n`)
	escapedPart = regexp.MustCompile(`[\\"$]`)
	signPart    = regexp.MustCompile(`^(?:[=!<>]=|&&|\|\||[][{}()=+*/%<>!?:,.-])`)
)

// modelToken answers the token at the front of a text, how many bytes it has, and what is wrong with it.
func modelToken(rest string) (api.TokKind, string, int, api.Errno) {
	heredoc := heredocPart.FindStringSubmatch(rest)
	switch {
	case rest[0] == '\n':
		return api.TLine, "\n", 1, api.OK
	case rest[0] == '"':
		length, code := modelText(rest)
		if code != api.OK {
			return api.TString, "", 0, code
		}
		return api.TString, rest[1 : length-1], length, api.OK
	case heredoc != nil:
		return modelHeredoc(rest[len(heredoc[0]):], heredoc[1])
	case strings.HasPrefix(rest, "<<"), strings.HasPrefix(rest, "/*"):
		return api.TSign, "", 0, api.ErrLex
	}
	if part := namePart.FindString(rest); part != "" {
		if len(part) > api.MaxName {
			return api.TName, "", 0, api.ErrLong
		}
		return api.TName, part, len(part), api.OK
	}
	if part := numberPart.FindString(rest); part != "" {
		switch {
		case !goodNumber.MatchString(part):
			return api.TNumber, "", 0, api.ErrLex
		case len(part) > api.MaxDigits:
			return api.TNumber, "", 0, api.ErrLong
		}
		return api.TNumber, part, len(part), api.OK
	}
	if part := signPart.FindString(rest); part != "" {
		return api.TSign, part, len(part), api.OK
	}
	return api.TSign, "", 0, api.ErrLex
}

// modelText answers how many bytes a text has, by a stack of the quotes and braces that are open.
func modelText(rest string) (int, api.Errno) {
	var open []byte
	for at := 0; at < len(rest); at++ {
		inText := len(open) > 0 && open[len(open)-1] == '"'
		switch c := rest[at]; {
		case c == '\n':
			return 0, api.ErrLex
		case inText && c == '"', !inText && c == '}':
			open = open[:len(open)-1]
		case inText && c == '\\':
			at++
			if at == len(rest) || strings.IndexByte(`"\ntr$`, rest[at]) < 0 {
				return 0, api.ErrLex
			}
		case inText && strings.HasPrefix(rest[at:], "${"):
			at++
			open = append(open, '{')
		case !inText && (c == '"' || c == '{'):
			open = append(open, c)
		}
		if strings.Count(string(open), "{") > api.MaxNest {
			return 0, api.ErrDeep
		}
		if len(open) == 0 {
			return at + 1, api.OK
		}
	}
	return 0, api.ErrLex
}

func modelHeredoc(rest, name string) (api.TokKind, string, int, api.Errno) {
	length := len("<<") + len(name) + len("\n")
	text, last := "", regexp.MustCompile(`^[ \t]*`+name+`$`)
	for _, line := range strings.Split(rest, "\n") {
		if last.MatchString(line) {
			return api.TString, text, length + len(line), api.OK
		}
		length += len(line) + 1
		line = escapedPart.ReplaceAllString(line, `\$0`)
		text += strings.ReplaceAll(strings.ReplaceAll(line, "\t", `\t`), "\r", `\r`) + `\n`
	}
	return api.TString, "", 0, api.ErrLex
}

// model answers what Scan is to answer.
func model(text string) ([]api.Token, *api.Diag) {
	if len(text) > api.MaxText {
		return nil, &api.Diag{Code: api.ErrLong}
	}
	for at := 0; at < len(text); {
		r, width := utf8.DecodeRuneInString(text[at:])
		if r == utf8.RuneError && width == 1 {
			return nil, &api.Diag{Code: api.ErrText, At: at}
		}
		at += width
	}
	var tokens []api.Token
	at := 0
	for {
		at += len(betweenPart.FindString(text[at:]))
		if at == len(text) {
			return append(tokens, api.Token{At: at}), nil
		}
		kind, part, length, code := modelToken(text[at:])
		if code == api.OK && len(tokens) >= api.MaxTokens {
			code = api.ErrLong
		}
		if code != api.OK {
			return nil, &api.Diag{Code: code, At: at}
		}
		tokens = append(tokens, api.Token{Kind: kind, Text: part, At: at})
		at += length
	}
}

// checkBeside holds Scan beside the model, and its tokens to P4.2; it answers the model's error.
func checkBeside(t *testing.T, text string) api.Errno {
	t.Helper()
	want, fault := model(text)
	got, wrong := Scan(text)
	if fault != nil {
		if wrong == nil || *wrong != *fault || got != nil {
			t.Fatalf("P4.1: Scan(%.400q): %s, %+v, want %+v", text, brief(got), wrong, fault)
		}
		return fault.Code
	}
	if wrong != nil || !slices.Equal(got, want) {
		t.Fatalf("P4.1: Scan(%.400q): %s, %+v, want %s", text, brief(got), wrong, brief(want))
	}
	checkPlaces(t, text, got)
	return api.OK
}

// checkPlaces wants each token's Text where P4.2 says.
func checkPlaces(t *testing.T, text string, tokens []api.Token) {
	t.Helper()
	for _, token := range tokens {
		at := token.At
		if strings.HasPrefix(text[at:], "<<") {
			continue
		}
		if token.Kind == api.TString {
			at++
		}
		if !strings.HasPrefix(text[at:], token.Text) {
			t.Fatalf("P4.2: Scan(%.400q): %+v doesn't stand there", text, token)
		}
	}
}

// TestPickedTexts has texts of parts as they are picked.
func TestPickedTexts(t *testing.T) {
	parts := []string{"a", "E", "_", "-", "9", "0", "12", " ", " ", "\t", "\r", "\n", "\n", "\n", `"`, `"`, `"`, `\`, "$", "{", "}", "{", "}", "${", "${", "<", "<<", "<<E\n", "<<E\n", "\nE", "\n\tE", "=", "==", "!", ">", "&", "&&", "|", "+", "/", "*", "//", "/*", "*/", "#", "%", "?", ":", ",", ".", "(", "]", "~", "n", "\u00e9", "\ufffd", "\xff", "\xc3"}
	heads := []string{"", "", "", `"`, `"`, `"${`, `"${`, `"${"`, "<<E\n", "<<E\n", "x", "/*", `"$` + strings.Repeat("{", 22), strings.Repeat(`"${`, 23), strings.Repeat("a", 30), strings.Repeat("1", 98)}
	r := rand.New(rand.NewSource(1))
	seen := map[api.Errno]int{}
	for i := range 60000 {
		text := heads[r.Intn(len(heads))]
		if i%100 == 0 {
			text = strings.Repeat("+", api.MaxTokens-3)
		}
		for range r.Intn(10) {
			text += parts[r.Intn(len(parts)-2*r.Intn(2))]
		}
		seen[checkBeside(t, text)]++
	}
	for _, code := range []api.Errno{api.OK, api.ErrLex, api.ErrText, api.ErrDeep, api.ErrLong} {
		if seen[code] < 50 {
			t.Errorf("picked texts with error %d: %d alone", code, seen[code])
		}
	}
}

// pickInside answers what may stand between quotes, or within braces.
func pickInside(r *rand.Rand, depth int, braces bool) string {
	text := ""
	for range r.Intn(4) {
		switch pick := r.Intn(6); {
		case pick == 0 && braces && depth < 4:
			text += "{" + pickInside(r, depth+1, true) + "}"
		case pick == 1 && braces:
			text += `"` + pickInside(r, depth, false) + `"`
		case pick < 3 && !braces && depth < 4:
			text += "${" + pickInside(r, depth+1, true) + "}"
		case pick == 3 && !braces:
			text += `\` + string(`"\ntr$`[r.Intn(6)])
		case braces:
			text += []string{"a", " ", "$", `\`, "#", "\t", "\u20ac", "1x"}[r.Intn(8)]
		default:
			text += []string{"a", " ", "$ ", "{", "}", "#", "\r", "\u00e9", "<<E"}[r.Intn(9)]
		}
	}
	return text
}

// pickLines answers a heredoc's lines, none of which is E alone, and what its Text has of them.
func pickLines(r *rand.Rand) (string, string) {
	runes := []string{"a", "E", "1", " ", "{", "}", "\u00e9", "\ufffd", "\x00", `"`, `\`, "$", "\t", "\r", "\n"}
	said := []string{"a", "E", "1", " ", "{", "}", "\u00e9", "\ufffd", "\x00", `\"`, `\\`, `\$`, `\t`, `\r`, `\n`}
	lines, text := "", ""
	for range r.Intn(8) {
		place := r.Intn(len(runes))
		lines, text = lines+runes[place], text+said[place]
	}
	if regexp.MustCompile(`(?m)^[ \t]*E$`).MatchString(lines) {
		return "", ""
	}
	return lines + "\n", text + `\n`
}

// pickToken answers a token, and how it is written.
func pickToken(r *rand.Rand) (api.Token, string) {
	switch r.Intn(6) {
	case 0:
		text := []string{"a", "_", "x-1", "E", "null", strings.Repeat("z", 32)}[r.Intn(6)]
		return name(text, 0), text
	case 1:
		text := []string{"0", "1", "10", "987", strings.Repeat("9", 100)}[r.Intn(5)]
		return digits(text, 0), text
	case 2:
		return line(0), "\n"
	case 3:
		text := pickInside(r, 0, false)
		return quote(text, 0), `"` + text + `"`
	case 4:
		lines, text := pickLines(r)
		return quote(text, 0), "<<E\n" + lines + []string{"", " ", "\t "}[r.Intn(3)] + "E"
	}
	text := strings.Fields("== != <= >= && || { } [ ] ( ) = + - * / % < > ! ? : , .")[r.Intn(25)]
	return sign(text, 0), text
}

// pickTokens answers tokens, and a text that has them.
func pickTokens(r *rand.Rand) ([]api.Token, string) {
	var tokens []api.Token
	text := ""
	for range r.Intn(12) {
		token, written := pickToken(r)
		between := []string{" ", "\t", "\r", "  ", " /**/", " /* a\n*/", " /*\"*/ "}
		if token.Kind == api.TLine {
			between = []string{"", " ", " # a", " //\"${"}
		}
		text += between[r.Intn(len(between))]
		token.At = len(text)
		tokens = append(tokens, token)
		text += written
		if strings.HasPrefix(written, "<<") {
			tokens = append(tokens, line(len(text)))
			text += "\n"
		}
	}
	return append(tokens, api.Token{At: len(text)}), text
}

// TestThereAndBack has texts that are made of tokens: just these are scanned.
func TestThereAndBack(t *testing.T) {
	r := rand.New(rand.NewSource(2))
	for range 20000 {
		want, text := pickTokens(r)
		got, wrong := Scan(text)
		if wrong != nil || !slices.Equal(got, want) {
			t.Fatalf("P4.1: Scan(%q): %s, %+v, want %s", text, brief(got), wrong, brief(want))
		}
		checkPlaces(t, text, got)
	}
}

// TestSpoiltTexts has texts that are right, but for a byte or two.
func TestSpoiltTexts(t *testing.T) {
	const bytes = "aE_-09 \t\r\n\"\\${}<=!&|/*#+.~\x00\xc3\xa9\xff"
	r := rand.New(rand.NewSource(3))
	seen := map[api.Errno]int{}
	for range 20000 {
		_, made := pickTokens(r)
		text := []byte(made + " ")
		for range r.Intn(4) {
			at, b := r.Intn(len(text)), bytes[r.Intn(len(bytes))]
			switch r.Intn(4) {
			case 0:
				text[at] = b
			case 1:
				text = slices.Insert(text, at, b)
			case 2:
				text = slices.Delete(text, at, min(len(text), at+1+r.Intn(4)))
			case 3:
				text = slices.Insert(text, at, slices.Clone(text[r.Intn(at+1):at])...)
			}
			text = append(text, ' ')
		}
		seen[checkBeside(t, string(text))]++
	}
	for _, code := range []api.Errno{api.OK, api.ErrLex, api.ErrText} {
		if seen[code] < 500 {
			t.Errorf("spoilt texts with error %d: %d alone", code, seen[code])
		}
	}
}
