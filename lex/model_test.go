package lex_test

import (
	"math"
	"math/big"
	"regexp"
	"slices"
	"strconv"
	"strings"
	"testing"
	"unicode/utf8"

	"acheron/api"
	"acheron/lex"
)

// The model reads texts by expressions instead of a scanner; each is taken at the beginning, and as long as it can be.
var (
	modelBlank   = longest(`([ \t\n\r]|#[^\n]*)*`)
	modelWord    = longest(`[A-Za-z_][A-Za-z0-9_]*`)
	modelNumber  = longest(`[0-9]\w*(\.[0-9]\w*)?|[0-9]+[eE][+-][0-9]\w*(\.[0-9]\w*)?|[0-9]+\.[0-9]+[eE][+-][0-9]\w*`)
	modelSign    = longest(modelSigns())
	modelEscape  = longest(`\\([ntr0\\'"]|u[0-9a-fA-F]{4})`)
	modelInteger = regexp.MustCompile(`^(?:([0-9]+)r)?([0-9a-zA-Z]+)$`)
	modelDecimal = regexp.MustCompile(`^[0-9]+$`)
	modelReal    = regexp.MustCompile(`^[0-9]+(\.[0-9]+([eE][+-]?[0-9]+)?|[eE][+-]?[0-9]+)$`)
)

func longest(s string) *regexp.Regexp {
	r := regexp.MustCompile(`^(?:` + s + `)`)
	r.Longest()
	return r
}

func modelSigns() string {
	var l []string
	for _, s := range signs() {
		l = append(l, regexp.QuoteMeta(s))
	}
	return strings.Join(l, "|")
}

// modelTokens is a second implementation of Tokens.
func modelTokens(text string) ([]api.Token, api.Fault) {
	if len(text) > api.MaxSource {
		return nil, api.Fault{Code: api.ErrLimit}
	}
	var l []api.Token
	for i := 0; ; {
		blank := modelBlank.FindString(text[i:])
		if n := validLength(blank); n < len(blank) {
			return nil, api.Fault{At: i + n, Code: api.ErrForm}
		}
		i += len(blank)
		if i == len(text) {
			return append(l, end(i)), api.Fault{}
		}
		token, size, f := modelToken(text, i)
		if f.Code != api.OK {
			return nil, f
		}
		l = append(l, at(token, i))
		i += size
	}
}

func validLength(s string) int {
	for i, c := range s {
		if c == utf8.RuneError && !strings.HasPrefix(s[i:], "\ufffd") {
			return i
		}
	}
	return len(s)
}

// modelToken returns the token at an index, and its length.
func modelToken(text string, i int) (api.Token, int, api.Fault) {
	rest := text[i:]
	if s := modelWord.FindString(rest); s != "" {
		switch {
		case len(s) > 40:
			return api.Token{}, 0, api.Fault{At: i, Code: api.ErrLimit}
		case slices.Contains(keywords(), s):
			return key(s), len(s), api.Fault{}
		}
		return name(s), len(s), api.Fault{}
	}
	if s := modelNumber.FindString(rest); s != "" {
		token, e := modelValue(s)
		if e != api.OK {
			return api.Token{}, 0, api.Fault{At: i, Code: e}
		}
		return token, len(s), api.Fault{}
	}
	if s := modelSign.FindString(rest); s != "" {
		return sign(s), len(s), api.Fault{}
	}
	if rest[0] == '"' || rest[0] == '\'' {
		chars, behind, f := modelLiteral(text, i)
		if f.Code != api.OK {
			return api.Token{}, 0, f
		}
		if rest[0] == '"' {
			return str(string(chars)), behind - i, api.Fault{}
		}
		if len(chars) != 1 {
			return api.Token{}, 0, api.Fault{At: i, Code: api.ErrSyntax}
		}
		return character(chars[0]), behind - i, api.Fault{}
	}
	if validLength(rest) == 0 {
		return api.Token{}, 0, api.Fault{At: i, Code: api.ErrForm}
	}
	return api.Token{}, 0, api.Fault{At: i, Code: api.ErrSyntax}
}

func modelValue(s string) (api.Token, api.Errno) {
	if len(s) > 100 {
		return api.Token{}, api.ErrLimit
	}
	if modelReal.MatchString(s) {
		return modelRealValue(s)
	}
	m := modelInteger.FindStringSubmatch(s)
	if m == nil || m[1] == "" && !modelDecimal.MatchString(s) {
		return api.Token{}, api.ErrSyntax
	}
	base := big.NewInt(10)
	if m[1] != "" {
		base.SetString(m[1], 10)
	}
	if base.Cmp(big.NewInt(2)) < 0 || base.Cmp(big.NewInt(36)) > 0 {
		return api.Token{}, api.ErrRange
	}
	n, ok := new(big.Int).SetString(m[2], int(base.Int64()))
	switch {
	case !ok:
		return api.Token{}, api.ErrSyntax
	case !n.IsInt64():
		return api.Token{}, api.ErrRange
	}
	return integer(n.Int64()), api.OK
}

// modelRealValue rounds the exact number once; a rational of a far power would be too large.
func modelRealValue(s string) (api.Token, api.Errno) {
	digits, power, _ := strings.Cut(strings.ToLower(s), "e")
	exact, _ := new(big.Rat).SetString(digits)
	if exact.Sign() == 0 {
		return number(0), api.OK
	}
	n, _ := new(big.Int).SetString("0"+strings.TrimLeft(power, "+-"), 10)
	if n.Cmp(big.NewInt(1000)) > 0 {
		n.SetInt64(1000)
	}
	scale := new(big.Rat).SetInt(new(big.Int).Exp(big.NewInt(10), n, nil))
	if strings.HasPrefix(power, "-") {
		scale.Inv(scale)
	}
	x, _ := exact.Mul(exact, scale).Float64()
	if math.IsInf(x, 0) {
		return api.Token{}, api.ErrRange
	}
	return number(x), api.OK
}

// modelLiteral returns the characters of the literal that begins at an index, and the index behind it.
func modelLiteral(text string, begin int) ([]rune, int, api.Fault) {
	var chars []rune
	for i := begin + 1; ; {
		if i == len(text) || text[i] == '\n' {
			return nil, 0, api.Fault{At: begin, Code: api.ErrEnd}
		}
		if text[i] == text[begin] {
			return chars, i + 1, api.Fault{}
		}
		escape := modelEscape.FindString(text[i:])
		c, size := utf8.DecodeRuneInString(text[i:])
		switch {
		case len(escape) == 6:
			n, _ := strconv.ParseUint(escape[2:], 16, 32)
			if n >= 0xD800 && n <= 0xDFFF {
				return nil, 0, api.Fault{At: i, Code: api.ErrRange}
			}
			c, size = rune(n), 6
		case escape != "":
			c, size = map[byte]rune{'n': 10, 't': 9, 'r': 13, '0': 0, '\\': 92, '\'': 39, '"': 34}[escape[1]], 2
		case c == '\\' || c < 32 || c == 127:
			return nil, 0, api.Fault{At: i, Code: api.ErrSyntax}
		case c == utf8.RuneError && size == 1:
			return nil, 0, api.Fault{At: i, Code: api.ErrForm}
		}
		chars = append(chars, c)
		i += size
	}
}

// pieces has what texts are put together from: all that is special, most of it legal.
func pieces() []string {
	l := []string{"a", "b1", "_", "x_y", "e", "E", "r", "R", "z", "Z", "0", "1", "2", "7", "9", "10", "36", "16r", "2r", "37r", "0r", "e+", "e-", "E+",
		".", ".", "1.5", "1e5", "1e400", "1e-400", "+", "-", `"`, `"`, `'`, `'`, `"ab"`, `'c'`, `'\''`, `"\""`, `\`, `\n`, `\0`, `\q`, `\u00e9`,
		`\uD7FF`, `\ud800`, `\u12`, "#", "# c\n", "#\n", " ", " ", "\n", "\t", "\r", "\x00", "\x1f", "\x7f", "?", "@", "é", "€", "😀", "\ufffd", "\xff",
		"\xc3", "\xe2\x82", "\xed\xa0\x80", "9223372036854775807", "9223372036854775808", "16r7fffffffffffffff", strings.Repeat("n", 39),
		strings.Repeat("n", 40), strings.Repeat("0", 49), strings.Repeat("8", 50), "while", "int", "iota", "adt", "of"}
	l = append(l, signs()...)
	return l
}

func someText(d *dice, l []string) string {
	s := ""
	for range d.below(14) {
		s += pick(d, l)
	}
	return s
}

// P5.1, P5.2, P5.3 and P2: texts of all kinds, as the model reads them.
func TestTokensAsModel(t *testing.T) {
	d := dice(1)
	right := 0
	legal := slices.DeleteFunc(pieces(), func(s string) bool { return modelFault(s) || modelFault(s+" x") })
	bases := []string{"0", "1", "9", "e", "E", "r", "z", "A", ".", "+", "-", "_", "1.", "e+1", "e-", "16r", "36r", "2r1"}
	for k := range 300000 {
		l := pieces()
		switch k % 3 {
		case 1:
			l = legal
		case 2:
			l = bases
		}
		text := someText(&d, l)
		want, fault := modelTokens(text)
		got, f := lex.Tokens(text)
		if f != fault || !slices.Equal(got, want) {
			t.Fatalf("Tokens(%q) = %v, %v, want %v, %v", text, got, f, want, fault)
		}
		if f != (api.Fault{}) {
			continue
		}
		right++
		checkParts(t, text, got)
		checkJoined(t, got)
	}
	if right < 60000 {
		t.Errorf("only %d texts were right", right)
	}
}

func modelFault(s string) bool {
	_, f := modelTokens(s)
	return f != (api.Fault{})
}

// checkParts checks that tokens ascend, and that the text from each one to the next one has just this token.
func checkParts(t *testing.T, text string, l []api.Token) {
	t.Helper()
	for i, token := range l[:len(l)-1] {
		next := l[i+1].At
		if next <= token.At {
			t.Fatalf("Tokens(%q): %d behind %d", text, next, token.At)
		}
		part := text[token.At:next]
		got, f := lex.Tokens(part)
		if f != (api.Fault{}) || !slices.Equal(got, []api.Token{at(token, 0), end(len(part))}) {
			t.Fatalf("Tokens(%q), a part of %q: %v, %v", part, text, got, f)
		}
	}
}

// checkJoined checks that the text of tokens has them again, and that Join leaves them as they are, and has one result.
func checkJoined(t *testing.T, l []api.Token) {
	t.Helper()
	before := slices.Clone(l)
	s, e := lex.Join(l)
	again, _ := lex.Join(l)
	if e != api.OK || s != again || !slices.Equal(l, before) {
		t.Fatalf("Join(%v) = %q, %q, %v, and the tokens are %v", before, s, again, e, l)
	}
	back, f := lex.Tokens(s)
	if f != (api.Fault{}) || !slices.Equal(bare(back), bare(l)) {
		t.Fatalf("Tokens(%q) = %v, %v, want %v", s, back, f, l)
	}
	if n := len(back); back[n-1] != end(len(s)) {
		t.Fatalf("Tokens(%q) ends with %v", s, back[n-1])
	}
}

// someToken returns a token that Tokens can return.
func someToken(d *dice) api.Token {
	switch d.below(7) {
	case 0:
		return name(pick(d, []string{"x", "_", "a1", "While", "e5", strings.Repeat("q", 40)}))
	case 1:
		return key(pick(d, keywords()))
	case 2:
		return integer(d.positive())
	case 3:
		return api.Token{Kind: api.TokReal, Num: d.positive() % 0x7FF0000000000000}
	case 4:
		return character(someChar(d))
	case 5:
		var s []rune
		for range d.below(6) {
			s = append(s, someChar(d))
		}
		return str(string(s))
	}
	return sign(pick(d, signs()))
}

func someChar(d *dice) rune {
	c := rune(d.positive() % 0x110000)
	if c >= 0xD800 && c <= 0xDFFF {
		return '"'
	}
	return c
}

// P5.2: tokens of all kinds, whatever their other fields are.
func TestJoinThereAndBack(t *testing.T) {
	d := dice(2)
	for range 50000 {
		var l []api.Token
		for range d.below(8) {
			l = append(l, at(someToken(&d), d.below(9)-4))
		}
		checkJoined(t, l)
	}
}

// P5.3: blanks and comments may be exchanged for others.
func TestOtherBlanks(t *testing.T) {
	d := dice(3)
	blanks := []string{" ", "\t", "\n", "\r", "  ", "\r\n", "#\n", "# a 'b \"c\n", "##\xc3\xa9\n", "#\t\x00\n"}
	for range 50000 {
		var want []api.Token
		text := pick(&d, blanks)
		for range d.below(8) {
			token := someToken(&d)
			s, _ := lex.Join([]api.Token{token})
			want = append(want, at(token, len(text)))
			text += s
			for range 1 + d.below(3) {
				text += pick(&d, blanks)
			}
		}
		has(t, text, want...)
		if t.Failed() {
			return
		}
	}
}
