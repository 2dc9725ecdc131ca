package text_test

import (
	"strings"
	"testing"

	"acheron/api"
	"acheron/text"
)

// encode is the encoding of the chapter's section Terms, written out.
func encode(c int) string {
	switch {
	case c < 128:
		return string([]byte{byte(c)})
	case c < 2048:
		return string([]byte{byte(0xC0 + c/64), byte(0x80 + c%64)})
	case c < 65536:
		return string([]byte{byte(0xE0 + c/4096), byte(0x80 + c/64%64), byte(0x80 + c%64)})
	}
	return string([]byte{byte(0xF0 + c/262144), byte(0x80 + c/4096%64), byte(0x80 + c/64%64), byte(0x80 + c%64)})
}

// someChars has characters on both sides of each bound of the chapter.
func someChars() []int {
	return []int{0, 1, 7, 8, 9, 10, 11, 12, 13, 31, 32, 33, 34, 39, 65, 92, 97, 126, 127, 128, 159, 160, 255, 256,
		2047, 2048, 55295, 57344, 65533, 65535, 65536, 65792, 131841, 1114110, 1114111}
}

// notChars has numbers that are no characters, with some that become one when they are cut off to 32 bits.
func notChars() []int {
	return []int{-1, -97, 55296, 56000, 57343, 1114112, 1 << 32, 1<<32 + 97, -1 << 32, -1 << 63, 1<<63 - 1}
}

// str returns the string of characters, made by Of of their encodings.
func str(t *testing.T, chars ...int) text.Str {
	t.Helper()
	var b strings.Builder
	for _, c := range chars {
		b.WriteString(encode(c))
	}
	return of(t, b.String())
}

func of(t *testing.T, s string) text.Str {
	t.Helper()
	r, e := text.Of(s)
	if e != api.OK {
		t.Fatalf("Of of %d bytes: error %v", len(s), e)
	}
	return r
}

// full returns a string of api.MaxString characters c.
func full(t *testing.T, c int) text.Str {
	t.Helper()
	return of(t, strings.Repeat(encode(c), api.MaxString))
}

func chars(t *testing.T, s text.Str) []int {
	t.Helper()
	var l []int
	for i := range s.Len() {
		c, e := s.At(i)
		if e != api.OK {
			t.Fatalf("At(%d) of %d characters: error %v", i, s.Len(), e)
		}
		l = append(l, c)
	}
	return l
}

// check fails unless s has the characters, and is narrow or wide as they say; also against a string made anew.
func check(t *testing.T, what string, s text.Str, want []int) {
	t.Helper()
	got := chars(t, s)
	wide := false
	same := len(got) == len(want)
	for i, c := range want {
		wide = wide || c > 255
		same = same && got[i] == c
	}
	if !same {
		t.Errorf("%s: characters %v, want %v", what, short(got), short(want))
		return
	}
	if s.Wide() != wide {
		t.Errorf("%s: Wide is %v", what, s.Wide())
	}
	if made := str(t, want...); made != s || text.Compare(s, made) != 0 {
		t.Errorf("%s: is not the value of the same string made by Of", what)
	}
}

func short(l []int) []int {
	return l[:min(len(l), 40)]
}

// errs fails unless an error came, and the empty string with it.
func errs(t *testing.T, what string, s text.Str, got, want api.Errno) {
	t.Helper()
	if got != want {
		t.Errorf("%s: error %v, want %v", what, got, want)
	}
	if s != (text.Str{}) || s.Len() != 0 || s.Wide() {
		t.Errorf("%s: a string of %d characters with an error", what, s.Len())
	}
}

// dice is a sequence of numbers that is the same in each run.
type dice uint64

func (d *dice) below(n int) int {
	*d = *d*6364136223846793005 + 1442695040888963407
	return int(uint64(*d)>>33) % n
}
