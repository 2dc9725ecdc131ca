package text

import (
	"strings"
	"unicode/utf8"

	"acheron/api"
)

// The letter of an escape and its character have the same index; Quote writes the first quoted ones alone.
const (
	escapeLetters = `ntr0"\bavf'`
	escapeChars   = "\n\t\r\x00\"\\\b\a\v\f'"
	quoted        = 6
)

const hexDigits = "0123456789abcdef"

// Quote returns the literal of a string.
func Quote(s Str) string {
	var b strings.Builder
	b.WriteByte('"')
	for i := range s.Len() {
		quoteChar(&b, s.char(i))
	}
	b.WriteByte('"')
	return b.String()
}

func quoteChar(b *strings.Builder, c rune) {
	if i := strings.IndexRune(escapeChars[:quoted], c); i >= 0 {
		b.WriteByte('\\')
		b.WriteByte(escapeLetters[i])
		return
	}
	if c < 32 || c == 127 {
		b.WriteString(`\u00`)
		b.WriteByte(hexDigits[c>>4])
		b.WriteByte(hexDigits[c&15])
		return
	}
	b.WriteRune(c)
}

// Unquote returns the string of the literal with which a text begins, and the literal's length.
func Unquote(s string) (Str, int, api.Errno) {
	if !strings.HasPrefix(s, `"`) {
		return Str{}, 0, api.ErrSyntax
	}
	var chars []rune
	for at := 1; at < len(s); {
		switch s[at] {
		case '"':
			return pack(chars), at + 1, api.OK
		case '\n':
			return Str{}, at, api.ErrSyntax
		}
		c, end, e := literalChar(s, at)
		if e != api.OK {
			return Str{}, end, e
		}
		if len(chars) == api.MaxString {
			return Str{}, at, api.ErrLimit
		}
		chars = append(chars, c)
		at = end
	}
	return Str{}, len(s), api.ErrEnd
}

// literalChar returns the character of a literal that begins at an index, and the index behind it; with an error,
// the index at which that was found. So do the functions below.
func literalChar(s string, at int) (rune, int, api.Errno) {
	if s[at] == '\\' {
		return escapedChar(s, at+1)
	}
	c, n := utf8.DecodeRuneInString(s[at:])
	return c, at + n, api.OK
}

// escapedChar reads an escape from the byte after its backslash on.
func escapedChar(s string, at int) (rune, int, api.Errno) {
	if at == len(s) {
		return 0, at, api.ErrEnd
	}
	switch s[at] {
	case 'u':
		return numberedChar(s, at, 4)
	case 'U':
		return numberedChar(s, at, 6)
	}
	i := strings.IndexByte(escapeLetters, s[at])
	if i < 0 {
		return 0, at, api.ErrName
	}
	return rune(escapeChars[i]), at + 1, api.OK
}

// numberedChar reads an escape with digits from its letter on.
func numberedChar(s string, letter, digits int) (rune, int, api.Errno) {
	c, end := 0, letter+1+digits
	for at := letter + 1; at < end; at++ {
		if at == len(s) {
			return 0, at, api.ErrEnd
		}
		d := digitValue(s[at])
		if d < 0 {
			return 0, at, api.ErrSyntax
		}
		c = c<<4 | d
	}
	if !isChar(c) {
		return 0, letter, api.ErrRange
	}
	return rune(c), end, api.OK
}

// digitValue returns the value of a hexadecimal digit, or -1.
func digitValue(b byte) int {
	if b >= 'A' && b <= 'F' {
		b += 'a' - 'A'
	}
	return strings.IndexByte(hexDigits, b)
}
