package text_test

import (
	"strconv"
	"strings"
	"testing"

	"acheron/api"
	"acheron/text"
)

// P1.4: the literal of each character.
func TestQuoteEachCharacter(t *testing.T) {
	for c := range 0x110000 {
		if c >= 0xD800 && c <= 0xDFFF {
			continue
		}
		want := encode(c)
		switch {
		case c == 10:
			want = `\n`
		case c == 9:
			want = `\t`
		case c == 13:
			want = `\r`
		case c == 0:
			want = `\0`
		case c == 34:
			want = `\"`
		case c == 92:
			want = `\\`
		case c < 16:
			want = `\u000` + strconv.FormatInt(int64(c), 16)
		case c < 32 || c == 127:
			want = `\u00` + strconv.FormatInt(int64(c), 16)
		}
		s := of(t, encode(c))
		q := text.Quote(s)
		if q != `"`+want+`"` {
			t.Fatalf("Quote of the character %d: %s", c, q)
		}
		if back, n, e := text.Unquote(q); back != s || n != len(q) || e != api.OK {
			t.Fatalf("Unquote(%s): %q, %d, %v", q, back.Text(), n, e)
		}
	}
}

// P1.4: strings and their literals.
func TestQuote(t *testing.T) {
	for _, x := range [][2]string{
		{"", `""`},
		{"hi", `"hi"`},
		{"a\n\t\r\x00\"\\'", `"a\n\t\r\0\"\\'"`},
		{"\b\a\v\f\x1f\x7f", `"\u0008\u0007\u000b\u000c\u001f\u007f"`},
		{"é€\U00010000", `"é€` + "\U00010000" + `"`},
		{"\u0080\u009f", "\"\u0080\u009f\""},
		{"\xff", "\"\uFFFD\""},
		{"0\x001", `"0\01"`},
	} {
		s := of(t, x[0])
		if q := text.Quote(s); q != x[1] {
			t.Errorf("Quote(%q) = %s, want %s", x[0], q, x[1])
		}
		check(t, "what was quoted", s, decode(x[0]))
	}
	for _, c := range []int{1, 97, 8364} {
		s := full(t, c)
		q := text.Quote(s)
		if back, n, e := text.Unquote(q); back != s || n != len(q) || e != api.OK {
			t.Errorf("Unquote of a full literal: %d characters, %d, %v", back.Len(), n, e)
		}
	}
}

type literal struct {
	s    string
	want []int
	at   int
	e    api.Errno
}

func unquotes(t *testing.T, l []literal) {
	t.Helper()
	for _, x := range l {
		s, at, e := text.Unquote(x.s)
		what := "Unquote(" + strconv.Quote(x.s[:min(len(x.s), 60)]) + ")"
		if at != x.at || e != x.e {
			t.Errorf("%s: %d, %v, want %d, %v", what, at, e, x.at, x.e)
		}
		if x.e != api.OK {
			errs(t, what, s, e, x.e)
			continue
		}
		check(t, what, s, x.want)
	}
}

// P1.4: each escape, bytes that are decoded, and texts that go on behind the literal.
func TestUnquote(t *testing.T) {
	unquotes(t, []literal{
		{`""`, nil, 2, api.OK},
		{`"""`, nil, 2, api.OK},
		{`"a" b"`, []int{97}, 3, api.OK},
		{`"a\n" b`, []int{97, 10}, 5, api.OK},
		{`"\n\t\r\b\a\v\f\0\"\'\\"`, []int{10, 9, 13, 8, 7, 11, 12, 0, 34, 39, 92}, 24, api.OK},
		{`"\\n"`, []int{92, 110}, 5, api.OK},
		{`"'"`, []int{39}, 3, api.OK},
		{`"\012"`, []int{0, 49, 50}, 6, api.OK},
		{`"\u0000"`, []int{0}, 8, api.OK},
		{`"\u00e9"`, []int{233}, 8, api.OK},
		{`"\u00E9"`, []int{233}, 8, api.OK},
		{`"\u12345"`, []int{0x1234, 53}, 9, api.OK},
		{`"\ud7ff\ue000\uffff"`, []int{0xD7FF, 0xE000, 0xFFFF}, 20, api.OK},
		{`"\uabcd\uEF01"`, []int{0xABCD, 0xEF01}, 14, api.OK},
		{`"\U000061"`, []int{97}, 10, api.OK},
		{`"\U10ffFF"`, []int{1114111}, 10, api.OK},
		{`"\U00D7FF\U00E000"`, []int{0xD7FF, 0xE000}, 18, api.OK},
		{"\"é\U00010000\"", []int{233, 65536}, 8, api.OK},
		{"\"\xff\xe2\x82\"", []int{65533, 65533, 65533}, 5, api.OK},
		{"\"\xe2\x82\\n\"", []int{65533, 65533, 10}, 6, api.OK},
		{"\"\t\r\x00\x7f\"\n", []int{9, 13, 0, 127}, 6, api.OK},
		{"\"a\"\n\xff", []int{97}, 3, api.OK},
	})
}

// P1.4: each error, at its place; of several the leftmost.
func TestUnquoteErrors(t *testing.T) {
	unquotes(t, []literal{
		{"", nil, 0, api.ErrSyntax},
		{"a", nil, 0, api.ErrSyntax},
		{` "a"`, nil, 0, api.ErrSyntax},
		{`\"a"`, nil, 0, api.ErrSyntax},
		{"\n", nil, 0, api.ErrSyntax},
		{`"`, nil, 1, api.ErrEnd},
		{`"ab`, nil, 3, api.ErrEnd},
		{"\"é\xc3", nil, 4, api.ErrEnd},
		{`"a\`, nil, 3, api.ErrEnd},
		{`"\"`, nil, 3, api.ErrEnd},
		{`"\u`, nil, 3, api.ErrEnd},
		{`"\u12`, nil, 5, api.ErrEnd},
		{`"\u123`, nil, 6, api.ErrEnd},
		{`"\ud800`, nil, 2, api.ErrRange},
		{`"\u1234`, nil, 7, api.ErrEnd},
		{`"\U`, nil, 3, api.ErrEnd},
		{`"\U12345`, nil, 8, api.ErrEnd},
		{"\"a\nb\"", nil, 2, api.ErrSyntax},
		{"\"\n", nil, 1, api.ErrSyntax},
		{"\"a\n\\q", nil, 2, api.ErrSyntax},
		{"\"\\q\n", nil, 2, api.ErrName},
		{`"\q"`, nil, 2, api.ErrName},
		{`"ab\N"`, nil, 4, api.ErrName},
		{`"\x41"`, nil, 2, api.ErrName},
		{`"\1"`, nil, 2, api.ErrName},
		{"\"\\\n\"", nil, 2, api.ErrName},
		{"\"\\é\"", nil, 2, api.ErrName},
		{`"\ "`, nil, 2, api.ErrName},
		{`"\u"`, nil, 3, api.ErrSyntax},
		{`"\u12"`, nil, 5, api.ErrSyntax},
		{`"\u12g4"`, nil, 5, api.ErrSyntax},
		{`"\uG000"`, nil, 3, api.ErrSyntax},
		{`"\u000G"`, nil, 6, api.ErrSyntax},
		{"\"\\u00\n0\"", nil, 5, api.ErrSyntax},
		{"\"\\u00\x110\"", nil, 5, api.ErrSyntax},
		{`"\u+123"`, nil, 3, api.ErrSyntax},
		{`"\u1_23"`, nil, 4, api.ErrSyntax},
		{`"\u00\n"`, nil, 5, api.ErrSyntax},
		{"\"\\u000é\"", nil, 6, api.ErrSyntax},
		{`"\U0000g1"`, nil, 7, api.ErrSyntax},
		{`"\U1234"`, nil, 7, api.ErrSyntax},
		{`"\ud800"`, nil, 2, api.ErrRange},
		{`"a\uDFFF"`, nil, 3, api.ErrRange},
		{`"\ud83d\ude00"`, nil, 2, api.ErrRange},
		{`"\U00d800"`, nil, 2, api.ErrRange},
		{`"\U110000"`, nil, 2, api.ErrRange},
		{`"\Uffffff"`, nil, 2, api.ErrRange},
		{`"\ud800\q"`, nil, 2, api.ErrRange},
		{`"\q\ud800"`, nil, 2, api.ErrName},
	})
}

// P1.4: every byte behind a backslash, and every byte in the place of a digit.
func TestUnquoteEachByte(t *testing.T) {
	const letters = `ntrbavf0"'\`
	for b := range 256 {
		s := "\"\\" + string([]byte{byte(b)}) + "\""
		_, at, e := text.Unquote(s)
		switch {
		case b == 'u' || b == 'U':
			if at != 3 || e != api.ErrSyntax {
				t.Errorf("Unquote(%q): %d, %v", s, at, e)
			}
		case strings.IndexByte(letters, byte(b)) >= 0:
			if at != 4 || e != api.OK {
				t.Errorf("Unquote(%q): %d, %v", s, at, e)
			}
		case at != 2 || e != api.ErrName:
			t.Errorf("Unquote(%q): %d, %v", s, at, e)
		}
		s = "\"\\u00" + string([]byte{byte(b)}) + "1\""
		r, at, e := text.Unquote(s)
		value := strings.Index("0123456789abcdef", strings.ToLower(string([]byte{byte(b)})))
		if value >= 0 {
			check(t, s, r, []int{value*16 + 1})
		} else if at != 5 || e != api.ErrSyntax {
			t.Errorf("Unquote(%q): %d, %v", s, at, e)
		}
	}
}

// P1.4: the limit, where its error is found, and which errors come before it.
func TestUnquoteLimit(t *testing.T) {
	most := `"` + strings.Repeat("a", api.MaxString)
	n := len(most)
	if s, at, e := text.Unquote(most + `"b`); s != full(t, 'a') || at != n+1 || e != api.OK {
		t.Errorf("Unquote at the limit: %d characters, %d, %v", s.Len(), at, e)
	}
	if s, at, e := text.Unquote(`"` + strings.Repeat(`\u00e9`, api.MaxString) + `"`); s != full(t, 233) || at != 6*api.MaxString+2 || e != api.OK {
		t.Errorf("Unquote of escapes at the limit: %d characters, %d, %v", s.Len(), at, e)
	}
	unquotes(t, []literal{
		{most, nil, n, api.ErrEnd},
		{most + "\n", nil, n, api.ErrSyntax},
		{most + `a"`, nil, n, api.ErrLimit},
		{most + "a", nil, n, api.ErrLimit},
		{most + "a\n", nil, n, api.ErrLimit},
		{most + "€\"", nil, n, api.ErrLimit},
		{most + "\xff\"", nil, n, api.ErrLimit},
		{most + `\n"`, nil, n, api.ErrLimit},
		{most + `\u0041"`, nil, n, api.ErrLimit},
		{most + `\U10ffff`, nil, n, api.ErrLimit},
		{most + `\`, nil, n + 1, api.ErrEnd},
		{most + `\q"`, nil, n + 1, api.ErrName},
		{most + `\u00`, nil, n + 4, api.ErrEnd},
		{most + `\u00g0"`, nil, n + 4, api.ErrSyntax},
		{most + `\ud800"`, nil, n + 1, api.ErrRange},
		{most + `a\q"`, nil, n, api.ErrLimit},
		{`"` + strings.Repeat(`\n`, api.MaxString+1) + `"`, nil, 1 + 2*api.MaxString, api.ErrLimit},
	})
}
