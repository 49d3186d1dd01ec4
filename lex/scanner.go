package lex

import (
	"strings"

	"purlin/api"
	"purlin/num"
)

// signs has each sign behind the longer ones that begin with it.
var signs = [...]string{
	"==", "!=", "<=", ">=", "&&", "||",
	"{", "}", "[", "]", "(", ")", "=", "+", "-", "*", "/", "%", "<", ">", "!", "?", ":", ",", ".",
}

// scanner goes through a text of UTF-8 from the front.
type scanner struct {
	text string
	at   int
}

// has: is this next?
func (s *scanner) has(part string) bool { return strings.HasPrefix(s.text[s.at:], part) }

// skip goes behind what is next, if it is this.
func (s *scanner) skip(part string) bool {
	if !s.has(part) {
		return false
	}
	s.at += len(part)
	return true
}

// take goes as far as belongs says of one rune behind another, and answers what
// it went over.
func (s *scanner) take(belongs func(r rune) bool) string {
	begin, end := s.at, len(s.text)
	for at, r := range s.text[begin:] {
		if !belongs(r) {
			end = begin + at
			break
		}
	}
	s.at = end
	return s.text[begin:end]
}

func anyOf(runes string) func(r rune) bool {
	return func(r rune) bool { return strings.ContainsRune(runes, r) }
}

func noneOf(runes string) func(r rune) bool {
	return func(r rune) bool { return !strings.ContainsRune(runes, r) }
}

func isDigit(r rune) bool { return '0' <= r && r <= '9' }

// isLetter: can it begin a name?
func isLetter(r rune) bool { return 'a' <= r && r <= 'z' || 'A' <= r && r <= 'Z' || r == '_' }

// skipBetween goes behind all that may stand between two tokens.
func (s *scanner) skipBetween() {
	for s.take(anyOf(" \t\r")) != "" || s.skipRemark() {
	}
}

// skipRemark leaves a /* without its end alone: who reads on finds no token there.
func (s *scanner) skipRemark() bool {
	switch {
	case s.has("#"), s.has("//"):
		s.take(noneOf("\n"))
		return true
	case s.has("/*"):
		_, behind, ends := strings.Cut(s.text[s.at+len("/*"):], "*/")
		if ends {
			s.at = len(s.text) - len(behind)
		}
		return ends
	}
	return false
}

func (s *scanner) line() (string, api.Errno) {
	s.skip("\n")
	return "\n", api.OK
}

// sign reads the longest that fits. A /* isn't two of them.
func (s *scanner) sign() (string, api.Errno) {
	if s.has("/*") {
		return "", api.ErrLex
	}
	for _, sign := range signs {
		if s.skip(sign) {
			return sign, api.OK
		}
	}
	return "", api.ErrLex
}

// word reads a name of any length; nothing, where no letter stands.
func (s *scanner) word() string {
	first := true
	return s.take(func(r rune) bool {
		fits := isLetter(r) || !first && (isDigit(r) || r == '-')
		first = false
		return fits
	})
}

func (s *scanner) name() (string, api.Errno) {
	name := s.word()
	if len(name) > api.MaxName {
		return "", api.ErrLong
	}
	return name, api.OK
}

// number looks at the length last, for that is known where the digits end alone.
func (s *scanner) number() (string, api.Errno) {
	digits := s.take(isDigit)
	switch {
	case s.word() != "":
		return "", api.ErrLex
	case num.Good(digits):
		return digits, api.OK
	case digits[0] == '0':
		return "", api.ErrLex
	}
	return "", api.ErrLong
}
