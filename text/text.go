// Package text is layer 1: see shared/doc/01-text.md.
package text

import (
	"slices"
	"strings"

	"acheron/api"
)

const (
	maxNarrow = 255
	maxChar   = 0x10FFFF
	wideBytes = 3 // a character has 21 bits
)

// Str is a string of characters. Its characters are kept in a string of Go, because nothing can change that: two
// strings may share it. Equal strings are equal values, because the width follows from the characters.
type Str struct {
	data string // narrow: a byte for each character; wide: wideBytes of them, the highest first
	wide bool
}

// Of returns the string that is decoded from UTF-8.
func Of(s string) (Str, api.Errno) {
	var chars []rune
	for _, c := range s {
		if len(chars) == api.MaxString {
			return Str{}, api.ErrLimit
		}
		chars = append(chars, c)
	}
	return pack(chars), api.OK
}

// Latin returns the string whose characters are bytes.
func Latin(b []byte) (Str, api.Errno) {
	if len(b) > api.MaxString {
		return Str{}, api.ErrLimit
	}
	return Str{data: string(b)}, api.OK
}

// Text returns the UTF-8 encoding.
func (s Str) Text() string {
	var b strings.Builder
	for i := range s.Len() {
		b.WriteRune(s.char(i))
	}
	return b.String()
}

// Len returns the number of characters.
func (s Str) Len() int {
	if s.wide {
		return len(s.data) / wideBytes
	}
	return len(s.data)
}

// Wide reports whether a character is above 255.
func (s Str) Wide() bool { return s.wide }

// At returns the character with an index.
func (s Str) At(i int) (int, api.Errno) {
	if i < 0 || i >= s.Len() {
		return 0, api.ErrRange
	}
	return int(s.char(i)), api.OK
}

// Slice returns the characters from an index up to, and without, another one.
func (s Str) Slice(from, to int) (Str, api.Errno) {
	if from < 0 || from > to || to > s.Len() {
		return Str{}, api.ErrRange
	}
	return s.part(from, to), api.OK
}

// Set returns the string in which the character with an index is another one.
func (s Str) Set(i, c int) (Str, api.Errno) {
	n := s.Len()
	switch {
	case i < 0 || i > n:
		return Str{}, api.ErrRange
	case !isChar(c):
		return Str{}, api.ErrArg
	}
	return Join(s.part(0, i), pack([]rune{rune(c)}), s.part(min(i+1, n), n))
}

// Join returns all characters of strings.
func Join(l ...Str) (Str, api.Errno) {
	n, wide := 0, false
	for _, s := range l {
		n += s.Len()
		if n > api.MaxString {
			return Str{}, api.ErrLimit
		}
		wide = wide || s.wide
	}
	var b strings.Builder
	for _, s := range l {
		if wide {
			b.WriteString(s.widened())
		} else {
			b.WriteString(s.data)
		}
	}
	return Str{b.String(), wide}, api.OK
}

// Compare returns -1, 0 or 1.
func Compare(a, b Str) int {
	// In one width the bytes have the order of the characters.
	if a.wide == b.wide {
		return strings.Compare(a.data, b.data)
	}
	return strings.Compare(a.widened(), b.widened())
}

// Find returns the least index at which a part occurs, or -1.
func Find(s, part Str) int {
	if part.Len() == 0 {
		return 0
	}
	shorter := borders(part)
	found := 0
	for i := range s.Len() {
		c := s.char(i)
		for found > 0 && c != part.char(found) {
			found = shorter[found-1]
		}
		if c == part.char(found) {
			found++
		}
		if found == part.Len() {
			return i + 1 - found
		}
	}
	return -1
}

// borders returns, for each beginning of s that is not empty, the length of its longest shorter beginning that is
// also its end. With them a search never goes back in what it searches, so it is not slow for any text.
func borders(s Str) []int {
	l := make([]int, s.Len())
	n := 0
	for i := 1; i < len(l); i++ {
		for n > 0 && s.char(i) != s.char(n) {
			n = l[n-1]
		}
		if s.char(i) == s.char(n) {
			n++
		}
		l[i] = n
	}
	return l
}

func isChar(c int) bool {
	return c >= 0 && c <= maxChar && (c < 0xD800 || c > 0xDFFF)
}

func isWide(c rune) bool { return c > maxNarrow }

// pack returns the string of at most api.MaxString characters.
func pack(chars []rune) Str {
	wide := slices.ContainsFunc(chars, isWide)
	var b []byte
	for _, c := range chars {
		if wide {
			b = append(b, byte(c>>16), byte(c>>8))
		}
		b = append(b, byte(c))
	}
	return Str{string(b), wide}
}

func (s Str) char(i int) rune {
	if !s.wide {
		return rune(s.data[i])
	}
	b := s.data[i*wideBytes:]
	return rune(b[0])<<16 | rune(b[1])<<8 | rune(b[2])
}

func (s Str) part(from, to int) Str {
	if !s.wide {
		return Str{data: s.data[from:to]}
	}
	return narrowed(s.data[from*wideBytes : to*wideBytes])
}

// narrowed returns the string with wideBytes for each character, which is narrow if it can be.
func narrowed(data string) Str {
	var b []byte
	for i := 0; i < len(data); i += wideBytes {
		if data[i] != 0 || data[i+1] != 0 {
			return Str{data, true}
		}
		b = append(b, data[i+2])
	}
	return Str{data: string(b)}
}

// widened returns wideBytes for each character.
func (s Str) widened() string {
	if s.wide {
		return s.data
	}
	var b []byte
	for i := range len(s.data) {
		b = append(b, 0, 0, s.data[i])
	}
	return string(b)
}
