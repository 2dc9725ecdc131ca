package lex

import (
	"strings"
	"unicode/utf8"

	"acheron/api"
)

// escape is a letter that stands for a character behind a backslash.
type escape struct{ letter, char rune }

var escapes = [...]escape{{'n', '\n'}, {'t', '\t'}, {'r', '\r'}, {'0', 0}, {'\\', '\\'}, {'\'', '\''}, {'"', '"'}}

const (
	hexDigits  = "0123456789abcdef"
	escapeSize = len(`\u0000`) // of an escape with digits
	deleted    = 0x7F
)

// isPlain reports whether a character stands for itself in literals that a quote ends.
func isPlain(c, quote rune) bool { return c >= ' ' && c != deleted && c != '\\' && c != quote }

// literal reads a literal, and returns its value.
func (s *scanner) literal() string {
	begin := s.at
	quote := rune(s.text[begin])
	plain := func(c rune) bool { return isPlain(c, quote) }
	s.at++
	var value strings.Builder
	for {
		value.WriteString(s.while(plain))
		if s.atEnd() || s.text[s.at] == '\n' {
			panic(api.Fault{At: begin, Code: api.ErrEnd})
		}
		switch rune(s.text[s.at]) {
		case quote:
			s.at++
			return value.String()
		case '\\':
			value.WriteRune(s.escaped())
		default:
			panic(api.Fault{At: s.at, Code: api.ErrSyntax})
		}
	}
}

// char reads a character literal.
func (s *scanner) char() rune {
	begin := s.at
	value := s.literal()
	c, size := utf8.DecodeRuneInString(value)
	if value == "" || size != len(value) {
		panic(api.Fault{At: begin, Code: api.ErrSyntax})
	}
	return c
}

// escaped reads an escape, and returns its character.
func (s *scanner) escaped() rune {
	rest := s.rest()
	for _, x := range escapes {
		if len(rest) > 1 && rune(rest[1]) == x.letter {
			s.at += 2
			return x.char
		}
	}
	if len(rest) < escapeSize || rest[1] != 'u' {
		panic(api.Fault{At: s.at, Code: api.ErrSyntax})
	}
	c := s.hexNumber(rest[2:escapeSize])
	if !utf8.ValidRune(c) {
		panic(api.Fault{At: s.at, Code: api.ErrRange})
	}
	s.at += escapeSize
	return c
}

// hexNumber returns the number of the digits of the escape that is read.
func (s *scanner) hexNumber(digits string) rune {
	number := 0
	for _, c := range digits {
		value := digitValue(c)
		if value >= len(hexDigits) {
			panic(api.Fault{At: s.at, Code: api.ErrSyntax})
		}
		number = number*len(hexDigits) + value
	}
	return rune(number)
}

// Quote returns the literal of a string.
func Quote(s string) (string, api.Errno) {
	if !utf8.ValidString(s) {
		return "", api.ErrForm
	}
	return quoted(s, '"'), api.OK
}

// quoted returns the literal of a string between two quotes of a kind; the other kind stands for itself in it.
func quoted(s string, quote rune) string {
	var b strings.Builder
	b.WriteRune(quote)
	for _, c := range s {
		if isPlain(c, quote) {
			b.WriteRune(c)
		} else {
			b.WriteString(escapeOf(c))
		}
	}
	b.WriteRune(quote)
	return b.String()
}

// escapeOf returns the escape of a character below U+0080.
func escapeOf(c rune) string {
	for _, x := range escapes {
		if c == x.char {
			return `\` + string(x.letter)
		}
	}
	return `\u00` + hexDigits[c>>4:c>>4+1] + hexDigits[c&15:c&15+1]
}
