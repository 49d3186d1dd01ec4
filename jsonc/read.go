package jsonc

import (
	"strings"

	"purlin/api"
	"purlin/value"
)

// reader goes through a text from the front. It throws what is wrong, as a *api.Diag.
type reader struct {
	text   string
	at     int
	values int // those that have begun
}

// peek answers the byte that is next. At the text's end that is 0, which may
// stand nowhere: so an end where more is wanted is told as a wrong byte is.
func (r *reader) peek() byte {
	if r.at < len(r.text) {
		return r.text[r.at]
	}
	return 0
}

// skip goes behind what is next, if it is this.
func (r *reader) skip(part string) bool {
	if !strings.HasPrefix(r.text[r.at:], part) {
		return false
	}
	r.at += len(part)
	return true
}

func (r *reader) skipBlanks() {
	for r.skip(" ") || r.skip("\t") || r.skip("\n") || r.skip("\r") {
	}
}

// take goes behind a sign, if it is next but for blanks.
func (r *reader) take(sign string) bool {
	r.skipBlanks()
	return r.skip(sign)
}

func (r *reader) want(sign string) {
	if !r.take(sign) {
		panic(diag(api.ErrJSON, r.at))
	}
}

func (r *reader) whole() api.Value {
	if len(r.text) > api.MaxJSON {
		panic(diag(api.ErrLong, 0))
	}
	v := r.value(1)
	r.skipBlanks()
	if r.at < len(r.text) {
		panic(diag(api.ErrJSON, r.at))
	}
	return v
}

// value looks at the limits ahead of what stands there: a value that may not
// begin is told as such, whatever it is, even if the text ends there.
func (r *reader) value(depth int) api.Value {
	r.skipBlanks()
	if depth > api.MaxDepth {
		panic(diag(api.ErrDeep, r.at))
	}
	if r.values == api.MaxValues {
		panic(diag(api.ErrLong, r.at))
	}
	r.values++
	switch c := r.peek(); {
	case c == '"':
		return value.Text(r.quoted())
	case c == '[':
		return r.list(depth)
	case c == '{':
		return r.object(depth)
	case c == '-' || isDigit(c):
		return r.number()
	}
	return r.word()
}

func (r *reader) word() api.Value {
	switch {
	case r.skip("null"):
		return value.Null()
	case r.skip("true"):
		return value.Bool(true)
	case r.skip("false"):
		return value.Bool(false)
	}
	panic(diag(api.ErrJSON, r.at))
}

func (r *reader) list(depth int) api.Value {
	var items []api.Value
	r.each("]", func() { items = append(items, r.value(depth+1)) })
	return value.List(items...)
}

func (r *reader) object(depth int) api.Value {
	var keys []string
	var items []api.Value
	seen := map[string]struct{}{}
	r.each("}", func() {
		keys = append(keys, r.key(seen))
		r.want(":")
		items = append(items, r.value(depth+1))
	})
	v, _ := value.Object(keys, items) // as many keys as items, and none twice
	return v
}

// each reads what stands from the sign that is next to its end, comma by comma.
func (r *reader) each(end string, read func()) {
	r.at++
	if r.take(end) {
		return
	}
	for {
		read()
		if r.take(end) {
			return
		}
		r.want(",")
	}
}

// key reads one that isn't among those seen, and adds it to them.
func (r *reader) key(seen map[string]struct{}) string {
	r.skipBlanks()
	quote := r.at
	if r.peek() != '"' {
		panic(diag(api.ErrJSON, quote))
	}
	key := r.quoted()
	if _, twice := seen[key]; twice {
		panic(diag(api.ErrTwice, quote))
	}
	seen[key] = struct{}{}
	return key
}

// number leaves what stands behind it alone: whoever reads on wants a sign or the
// text's end there, and so finds a digit, a point or an e wrong, at the same byte.
func (r *reader) number() api.Value {
	begin := r.at
	r.skip("-")
	digits := r.digits()
	if len(digits) > api.MaxDigits {
		panic(diag(api.ErrLong, begin))
	}
	if digits == "0" {
		begin = r.at - 1 // 0 has no sign
	}
	return api.Value{Kind: api.KInt, Text: strings.Clone(r.text[begin:r.at])}
}

// digits reads 0 alone, or a digit 1 to 9 and all that follow.
func (r *reader) digits() string {
	begin := r.at
	if !isDigit(r.peek()) {
		panic(diag(api.ErrJSON, begin))
	}
	if !r.skip("0") {
		for isDigit(r.peek()) {
			r.at++
		}
	}
	return r.text[begin:r.at]
}

func isDigit(c byte) bool { return '0' <= c && c <= '9' }
