package lex_test

import (
	"strconv"
	"strings"
	"testing"

	"acheron/api"
	"acheron/lex"
)

// P5.1 and P5.2: the literal of each character, between others; it has one token, the string.
func TestQuoteEachCharacter(t *testing.T) {
	short := map[rune]string{0: `\0`, '\n': `\n`, '\t': `\t`, '\r': `\r`, '"': `\"`, '\\': `\\`}
	for c := rune(0); c <= 0x10FFFF; c++ {
		if c >= 0xD800 && c <= 0xDFFF {
			continue
		}
		want := string(c)
		if c < 0x20 || c == 0x7F {
			hex := strconv.FormatInt(int64(c), 16)
			want = `\u` + strings.Repeat("0", 4-len(hex)) + hex
		}
		if s, ok := short[c]; ok {
			want = s
		}
		for _, s := range []string{string(c), "a" + string(c) + "1"} {
			q, e := lex.Quote(s)
			if q != `"`+strings.Replace(s, string(c), want, 1)+`"` || e != api.OK {
				t.Fatalf("Quote of the character %d: %s, %v", c, q, e)
			}
			l, f := lex.Tokens(q)
			if f != (api.Fault{}) || len(l) != 2 || l[0] != str(s) || l[1] != end(len(q)) {
				t.Fatalf("Tokens(%s) = %v, %v", q, l, f)
			}
		}
	}
}

// P5.1: whole strings, of any length.
func TestQuote(t *testing.T) {
	for _, x := range [][2]string{
		{"", `""`}, {"hi", `"hi"`}, {"it's", `"it's"`}, {`a"b\`, `"a\"b\\"`}, {"\x001", `"\01"`}, {"\x1f\x7f\x0b", `"\u001f\u007f\u000b"`},
		{"\u0080é€\ufffd😀", "\"\u0080é€\ufffd😀\""}, {`\n`, `"\\n"`}, {"# x", `"# x"`},
		{strings.Repeat("\n", 100000), `"` + strings.Repeat(`\n`, 100000) + `"`},
	} {
		if q, e := lex.Quote(x[0]); q != x[1] || e != api.OK {
			t.Errorf("Quote(%s) = %s, %v, want %s", short(x[0]), short(q), e, short(x[1]))
		}
	}
}

// P5.1: strings that are not UTF-8.
func TestQuoteForm(t *testing.T) {
	for _, s := range notForms() {
		for _, full := range []string{s, "a" + s, s + "a", "é" + s + "\n", "\ufffd" + s} {
			if q, e := lex.Quote(full); q != "" || e != api.ErrForm {
				t.Errorf("Quote(%s) = %s, %v", short(full), short(q), e)
			}
		}
	}
}
