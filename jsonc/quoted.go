package jsonc

import (
	"strconv"
	"strings"
	"unicode/utf8"

	"purlin/api"
)

// unitBytes is how many a \u and its digits have.
const unitBytes = len(`\u0000`)

// The halves of a pair of \u that stand for one rune, and the first rune that needs such a pair.
const (
	highHalf  = 0xD800
	lowHalf   = 0xDC00
	halfCount = 0x400
	firstPair = 0x10000
)

// quoted reads a text, from the quote that is next to the one that ends it.
func (r *reader) quoted() string {
	quote := r.at
	r.at++
	var text []byte
	for !r.skip(`"`) {
		text = utf8.AppendRune(text, r.quotedRune())
	}
	if len(text) > api.MaxText {
		panic(diag(api.ErrLong, quote))
	}
	return string(text)
}

// quotedRune reads what stands for one rune of a text.
func (r *reader) quotedRune() rune {
	c := r.peek()
	if c < ' ' {
		panic(diag(api.ErrJSON, r.at))
	}
	if c == '\\' {
		return r.escape()
	}
	one, width := utf8.DecodeRuneInString(r.text[r.at:])
	if one == utf8.RuneError && width == 1 {
		panic(diag(api.ErrText, r.at))
	}
	r.at += width
	return one
}

// escape reads a backslash and what belongs to it.
func (r *reader) escape() rune {
	if r.skip(`\/`) {
		return '/'
	}
	for place, letter := range letters {
		if r.skip(`\` + string(letter)) {
			return rune(escaped[place])
		}
	}
	return r.escapedRune()
}

// escapedRune reads a \u, or two of them that are the halves of one rune.
func (r *reader) escapedRune() rune {
	first := r.unit(r.at)
	if utf8.ValidRune(first) {
		r.at += unitBytes
		return first
	}
	high, low := first-highHalf, r.unit(r.at+unitBytes)-lowHalf
	if high < 0 || high >= halfCount || low < 0 || low >= halfCount {
		panic(diag(api.ErrJSON, r.at))
	}
	r.at += 2 * unitBytes
	return firstPair + high*halfCount + low
}

// unit answers the number of the \u at a byte, or -1 if none stands there, with its digits.
func (r *reader) unit(at int) rune {
	end := at + unitBytes
	if end > len(r.text) {
		return -1
	}
	digits, has := strings.CutPrefix(r.text[at:end], `\u`)
	number, err := strconv.ParseUint(digits, 16, 16)
	if !has || err != nil {
		return -1
	}
	return rune(number)
}
