package funcs

import (
	"slices"
	"strconv"
	"strings"

	"purlin/api"
	"purlin/num"
	"purlin/value"
)

// alphabet is how many letters there are from a to z.
const alphabet = 26

// runesOf cuts a text into its runes. A byte at which none begins is one by
// itself, and must stay as it is: so they are pieces of the text, not numbers.
func runesOf(text string) []string {
	var runes []string
	begin := 0
	for at := range text {
		if at > begin {
			runes = append(runes, text[begin:at])
			begin = at
		}
	}
	if text != "" {
		runes = append(runes, text[begin:])
	}
	return runes
}

func upper(args []api.Value) (api.Value, api.Errno) {
	return value.Text(withLetters(args[0].Text, 'a', 'A')), api.OK
}

func lower(args []api.Value) (api.Value, api.Errno) {
	return value.Text(withLetters(args[0].Text, 'A', 'a')), api.OK
}

// withLetters answers a text with the letters from one on as those from another on.
func withLetters(text string, from, to rune) string {
	letters := []byte(text)
	for at, r := range text {
		if from <= r && r < from+alphabet {
			letters[at] = byte(r - from + to)
		}
	}
	return string(letters)
}

func reversed(text string) string {
	runes := runesOf(text)
	slices.Reverse(runes)
	return strings.Join(runes, "")
}

func substr(args []api.Value) (api.Value, api.Errno) {
	ahead, count := args[1].Text, args[2].Text
	if num.Cmp(ahead, "0") < 0 || num.Cmp(count, "0") < 0 {
		return api.Value{}, api.ErrArgs
	}
	runes := runesOf(args[0].Text)
	runes = runes[atMost(ahead, len(runes)):]
	runes = runes[:atMost(count, len(runes))]
	return value.Text(strings.Join(runes, "")), api.OK
}

// atMost answers a number of 0 or more, or the bound, if that is less: a number
// may be far greater than an int.
func atMost(number string, bound int) int {
	if num.Cmp(number, num.Of(bound)) > 0 {
		return bound
	}
	n, _ := num.Int(number)
	return n
}

func join(args []api.Value) (api.Value, api.Errno) {
	between, items := args[0].Text, args[1].Items
	if !all(items, isText) {
		return api.Value{}, api.ErrArgs
	}
	var text strings.Builder
	for place, item := range items {
		if place > 0 {
			text.WriteString(between)
		}
		text.WriteString(item.Text)
		if text.Len() > api.MaxText { // the whole might have thousands of times as many bytes
			return api.Value{}, api.ErrLong
		}
	}
	return value.Text(text.String()), api.OK
}

func isText(v api.Value) bool { return v.Kind == api.KString }

func split(args []api.Value) (api.Value, api.Errno) {
	between, text := args[0].Text, args[1].Text
	if between == "" {
		return api.Value{}, api.ErrArgs
	}
	return textList(strings.Split(text, between)), api.OK
}

func toText(args []api.Value) (api.Value, api.Errno) {
	if args[0].Kind == api.KBool {
		return value.Text(strconv.FormatBool(args[0].Bool)), api.OK
	}
	return value.Text(args[0].Text), api.OK
}
