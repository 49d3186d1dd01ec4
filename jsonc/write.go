package jsonc

import (
	"strconv"
	"strings"
	"unicode/utf8"

	"purlin/api"
)

// A letter behind a backslash stands for the byte at its place in escaped.
const (
	escaped = "\"\\\b\f\n\r\t"
	letters = `"\bfnrt`
)

const hexDigits = "0123456789abcdef"

// allUTF8: are all texts and keys within UTF-8?
func allUTF8(v api.Value) bool {
	if !utf8.ValidString(v.Text) {
		return false
	}
	for _, key := range v.Keys {
		if !utf8.ValidString(key) {
			return false
		}
	}
	for _, item := range v.Items {
		if !allUTF8(item) {
			return false
		}
	}
	return true
}

// appendValue wants a good value, known, of UTF-8.
func appendValue(json []byte, v api.Value) []byte {
	switch v.Kind {
	case api.KBool:
		return strconv.AppendBool(json, v.Bool)
	case api.KInt:
		return append(json, v.Text...)
	case api.KString:
		return appendText(json, v.Text)
	case api.KList:
		return appendList(json, v.Items)
	case api.KObject:
		return appendObject(json, v.Keys, v.Items)
	}
	return append(json, "null"...)
}

func appendList(json []byte, items []api.Value) []byte {
	json = append(json, '[')
	for place, item := range items {
		if place > 0 {
			json = append(json, ',')
		}
		json = appendValue(json, item)
	}
	return append(json, ']')
}

func appendObject(json []byte, keys []string, items []api.Value) []byte {
	json = append(json, '{')
	for place, key := range keys {
		if place > 0 {
			json = append(json, ',')
		}
		json = append(appendText(json, key), ':')
		json = appendValue(json, items[place])
	}
	return append(json, '}')
}

// appendText leaves JSON that is too long already as it is: the texts of a good
// value may have hundreds of times as many bytes as its JSON may.
func appendText(json []byte, text string) []byte {
	if len(json) > api.MaxJSON {
		return json
	}
	json = append(json, '"')
	for _, r := range text {
		json = appendRune(json, r)
	}
	return append(json, '"')
}

func appendRune(json []byte, r rune) []byte {
	if place := strings.IndexRune(escaped, r); place >= 0 {
		return append(json, '\\', letters[place])
	}
	if r < ' ' {
		return append(json, '\\', 'u', '0', '0', hexDigits[r>>4], hexDigits[r&15])
	}
	return utf8.AppendRune(json, r)
}
