package lex

import (
	"strings"
	"unicode/utf8"

	"purlin/api"
)

// A letter behind a backslash stands for the byte at its place in escaped.
const (
	escaped = "\"\\\n\t\r$"
	letters = `"\ntr$`
)

// quoted reads what stands between the quote that is next and the one that ends
// its text.
func (s *scanner) quoted() (string, api.Errno) {
	begin := s.at
	if code := s.skipText(0); code != api.OK {
		return "", code
	}
	return s.text[begin+1 : s.at-1], api.OK
}

// skipText goes behind a text that stands in so many insertions and braces.
func (s *scanner) skipText(depth int) api.Errno {
	s.skip(`"`)
	return s.skipTo(`"`, func() api.Errno {
		switch {
		case s.has(`\`):
			return s.skipEscape()
		case s.has("${"):
			s.skip("$")
			return s.skipBraces(depth + 1)
		case s.skip("$"), s.take(noneOf("\"\\$\n")) != "":
			return api.OK
		}
		return api.ErrLex
	})
}

// skipBraces goes behind a brace, all within, and the brace that ends it.
func (s *scanner) skipBraces(depth int) api.Errno {
	if depth > api.MaxNest {
		return api.ErrDeep
	}
	s.skip("{")
	return s.skipTo("}", func() api.Errno {
		switch {
		case s.has("{"):
			return s.skipBraces(depth + 1)
		case s.has(`"`):
			return s.skipText(depth)
		case s.take(noneOf("{}\"\n")) != "":
			return api.OK
		}
		return api.ErrLex
	})
}

// skipTo goes behind an end, part by part; skipPart says what is wrong where
// neither the end nor a part stands.
func (s *scanner) skipTo(end string, skipPart func() api.Errno) api.Errno {
	for !s.skip(end) {
		if code := skipPart(); code != api.OK {
			return code
		}
	}
	return api.OK
}

func (s *scanner) skipEscape() api.Errno {
	for _, letter := range letters {
		if s.skip(`\` + string(letter)) {
			return api.OK
		}
	}
	return api.ErrLex
}

// heredoc reads a text of lines, from the << that is next to the name behind them.
func (s *scanner) heredoc() (string, api.Errno) {
	s.skip("<<")
	name := s.word()
	if name == "" {
		return "", api.ErrLex
	}
	begin := s.at + len("\n")
	for s.skip("\n") {
		end := s.at
		if strings.TrimLeft(s.take(noneOf("\n")), " \t") == name {
			return escape(s.text[begin:end]), api.OK
		}
	}
	return "", api.ErrLex
}

// escape answers what would stand between quotes to say the same.
func escape(lines string) string {
	var text []byte
	for _, r := range lines {
		if place := strings.IndexRune(escaped, r); place >= 0 {
			text = append(text, '\\', letters[place])
		} else {
			text = utf8.AppendRune(text, r)
		}
	}
	return string(text)
}
