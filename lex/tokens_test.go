package lex_test

import (
	"math"
	"strings"
	"testing"

	"acheron/api"
	"acheron/lex"
)

// P5.1: the chapter's examples.
func TestTokensExamples(t *testing.T) {
	has(t, "x := 16r1F; # five", name("x"), at(sign(":="), 2), at(integer(31), 5), at(sign(";"), 10))
	has(t, "a.b 1.5e2 1.x", name("a"), at(sign("."), 1), at(name("b"), 2), at(number(150), 4), at(integer(1), 10),
		at(sign("."), 11), at(name("x"), 12))
	has(t, `"a\u00e9"`, str("a\xc3\xa9"))
	has(t, "a<-b", name("a"), at(sign("<-"), 1), at(name("b"), 3))
}

// P5.1: what separates tokens, and where they are.
func TestTokensBlanks(t *testing.T) {
	for _, s := range []string{"", " ", "\t\n\r ", "#", "# x", "# x\n", "##\n#\n", "# \" ' \\ \x00\x01\x7f\r\t\n ", "#\n\r\n#",
		"# é€😀\ufffd\n", strings.Repeat(" ", api.MaxSource), "#" + strings.Repeat("é", 32767) + "x",
		strings.Repeat("#\n", api.MaxSource/2)} {
		has(t, s)
	}
	has(t, " a", at(name("a"), 1))
	has(t, "a b", name("a"), at(name("b"), 2))
	has(t, "a\tb\nc\rd", name("a"), at(name("b"), 2), at(name("c"), 4), at(name("d"), 6))
	has(t, "a#b\nc", name("a"), at(name("c"), 4))
	has(t, "#é\nc#é", at(name("c"), 4))
	has(t, "a#\rb\nc", name("a"), at(name("c"), 5))
	has(t, "a# \"\nb", name("a"), at(name("b"), 5))
	has(t, "<#\n=", sign("<"), at(sign("="), 3))
	has(t, "1#\n.5", integer(1), at(sign("."), 3), at(integer(5), 4))
	has(t, "\"#\"'#'", str("#"), at(character('#'), 3))
}

// P5.1: names and keywords.
func TestTokensWords(t *testing.T) {
	for _, s := range keywords() {
		has1(t, s, key(s))
		has1(t, s+"s_1", name(s+"s_1"))
		has(t, s+" "+s, key(s), at(key(s), len(s)+1))
	}
	for _, s := range []string{"x", "_", "_1", "If", "aZ09_", strings.Repeat("q", 40), "while" + strings.Repeat("_", 35)} {
		has1(t, s, name(s))
	}
	has(t, "a1 1", name("a1"), at(integer(1), 3))
	has(t, "while(x)", key("while"), at(sign("("), 5), at(name("x"), 6), at(sign(")"), 7))
	has(t, "a\"b\"c", name("a"), at(str("b"), 1), at(name("c"), 4))
}

// P5.1: each sign, alone and before each other one: the longest sign is taken.
func TestTokensSigns(t *testing.T) {
	for _, a := range signs() {
		has1(t, a, sign(a))
		has(t, "x"+a+"y", name("x"), at(sign(a), 1), at(name("y"), 1+len(a)))
		for _, b := range signs() {
			text := a + b
			var want []api.Token
			for i := 0; i < len(text); {
				longest := ""
				for _, s := range signs() {
					if strings.HasPrefix(text[i:], s) && len(s) > len(longest) {
						longest = s
					}
				}
				want = append(want, at(sign(longest), i))
				i += len(longest)
			}
			has(t, text, want...)
		}
	}
	has(t, "a<-=b", name("a"), at(sign("<-="), 1), at(name("b"), 4))
	has(t, "a<--b", name("a"), at(sign("<-"), 1), at(sign("-"), 3), at(name("b"), 4))
	has(t, "<<==>>>=", sign("<<="), at(sign("=>"), 3), at(sign(">>="), 5))
	has(t, ":::=", sign("::"), at(sign(":="), 2))
	has(t, "...", sign("."), at(sign("."), 1), at(sign("."), 2))
}

// P5.1: integers.
func TestTokensIntegers(t *testing.T) {
	for _, x := range []struct {
		text string
		want int64
	}{
		{"0", 0}, {"7", 7}, {"007", 7}, {"1234567890", 1234567890}, {"9223372036854775807", math.MaxInt64},
		{"16r1F", 31}, {"16r1f", 31}, {"2r101", 5}, {"2r0", 0}, {"8r777", 511}, {"10r99", 99}, {"36rZz", 35*36 + 35},
		{"36rr", 27}, {"36rR", 27}, {"36re", 14}, {"15re", 14}, {"16r7fffffffffffffff", math.MaxInt64}, {"016rA", 10},
		{"00000000000002r11", 3}, {"2r" + strings.Repeat("1", 63), math.MaxInt64}, {"36r1y2p0ij32e8e7", math.MaxInt64},
		{strings.Repeat("0", 99) + "5", 5}, {"2r" + strings.Repeat("0", 97) + "1", 1}, {"9223372036854775807", math.MaxInt64},
	} {
		has1(t, x.text, integer(x.want))
	}
	for base := 2; base <= 36; base++ {
		const digits = "0123456789abcdefghijklmnopqrstuvwxyz"
		text := integerText(base) + "r"
		greatest := digits[base-1 : base]
		has1(t, text+greatest, integer(int64(base-1)))
		has1(t, text+strings.ToUpper(greatest), integer(int64(base-1)))
		has1(t, text+"10", integer(int64(base)))
		if base < 36 {
			fails(t, text+digits[base:base+1], 0, api.ErrSyntax)
			fails(t, text+"1"+strings.ToUpper(digits[base:base+1]), 0, api.ErrSyntax)
		}
	}
}

func integerText(n int) string {
	s, _ := lex.Join([]api.Token{integer(int64(n))})
	return s
}

// P5.1: real numbers, rounded once.
func TestTokensReals(t *testing.T) {
	for _, x := range []struct {
		text string
		want float64
	}{
		{"1.5", 1.5}, {"1.5e2", 150}, {"1e2", 100}, {"1E2", 100}, {"1e+2", 100}, {"1e-2", 0.01}, {"1.25E-2", 0.0125},
		{"0.0", 0}, {"0e0", 0}, {"00.10", 0.1}, {"0e99999999999999999999", 0}, {"1e-999", 0}, {"1e-99999999999999999999", 0},
		{"5e-324", 5e-324}, {"2.4703282292062327e-324", 0}, {"2.4703282292062328e-324", 5e-324},
		{"1.7976931348623157e308", math.MaxFloat64}, {"1.7976931348623158e308", math.MaxFloat64},
		{"9007199254740993.0", 9007199254740992}, {"9007199254740995.0", 9007199254740996},
		{"9007199254740993.00000000000000000000000000000000001", 9007199254740994},
		{"0.1", 0.1}, {"123456789.987654321", 123456789.987654321}, {"1e0000000000000000000000000000000000000000000001", 10},
		{"1." + strings.Repeat("0", 98), 1}, {"0." + strings.Repeat("0", 90) + "1e91", 1},
		{"1" + strings.Repeat("0", 90) + ".0e-90", 1},
	} {
		has1(t, x.text, number(x.want))
	}
}

// P5.1: where a number ends.
func TestTokensNumberEnds(t *testing.T) {
	has(t, "1.", integer(1), at(sign("."), 1))
	has(t, "1.x", integer(1), at(sign("."), 1), at(name("x"), 2))
	has(t, "1.e5", integer(1), at(sign("."), 1), at(name("e5"), 2))
	has(t, "1._", integer(1), at(sign("."), 1), at(name("_"), 2))
	has(t, "1..5", integer(1), at(sign("."), 1), at(sign("."), 2), at(integer(5), 3))
	has(t, ".5", sign("."), at(integer(5), 1))
	has(t, "1.5.5", number(1.5), at(sign("."), 3), at(integer(5), 4))
	has(t, "1.5e2.5", number(150), at(sign("."), 5), at(integer(5), 6))
	has(t, "1.5.x", number(1.5), at(sign("."), 3), at(name("x"), 4))
	has(t, "1+5", integer(1), at(sign("+"), 1), at(integer(5), 2))
	has(t, "1-5", integer(1), at(sign("-"), 1), at(integer(5), 2))
	has(t, "16r1e+5", integer(30), at(sign("+"), 5), at(integer(5), 6))
	has(t, "15re-5", integer(14), at(sign("-"), 4), at(integer(5), 5))
	has(t, "1e5+5", number(1e5), at(sign("+"), 3), at(integer(5), 4))
	has(t, "1e+5+5", number(1e5), at(sign("+"), 4), at(integer(5), 5))
	has(t, "1e+5-5", number(1e5), at(sign("-"), 4), at(integer(5), 5))
	has(t, "12\"a\"", integer(12), at(str("a"), 2))
	has(t, "12'a'", integer(12), at(character('a'), 2))
	has(t, "1#", integer(1))
	has(t, "a.1", name("a"), at(sign("."), 1), at(integer(1), 2))
	has(t, "e+1", name("e"), at(sign("+"), 1), at(integer(1), 2))
	has(t, "-1", sign("-"), at(integer(1), 1))
}

// P5.1: strings and character literals.
func TestTokensLiterals(t *testing.T) {
	for _, x := range [][2]string{
		{`""`, ""}, {`"a"`, "a"}, {`"a b"`, "a b"}, {`"'"`, "'"}, {`"\'\""`, `'"`}, {`"\n\t\r\0\\"`, "\n\t\r\x00\\"},
		{`"\\n"`, `\n`}, {`"\\\\"`, `\\`}, {`"\u0000\u0041\u00e9\u00E9\u20ac\uFFFD\ufffd"`, "\x00A\u00e9\u00e9\u20ac\ufffd\ufffd"},
		{`"\ud7ff\ue000\uffff"`, "\ud7ff\ue000\uffff"}, {`"\u00411"`, "A1"}, {`"\012"`, "\x0012"}, {`"é€😀"`, "é€😀"},
		{"\"\u0080\u009f\u00a0\ufeff\ufffd\U0010ffff\"", "\u0080\u009f\u00a0\ufeff\ufffd\U0010ffff"}, {`"#"`, "#"}, {`"~ !"`, "~ !"},
		{`"` + strings.Repeat("a", api.MaxSource-2) + `"`, strings.Repeat("a", api.MaxSource-2)},
	} {
		has1(t, x[0], str(x[1]))
	}
	for _, x := range []struct {
		text string
		want rune
	}{
		{"'a'", 'a'}, {"' '", ' '}, {"'\"'", '"'}, {`'\''`, '\''}, {`'\"'`, '"'}, {`'\\'`, '\\'}, {`'\n'`, '\n'}, {`'\t'`, '\t'},
		{`'\r'`, '\r'}, {`'\0'`, 0}, {`'\u0041'`, 'A'}, {`'\uFFFD'`, 0xFFFD}, {"'\ufffd'", 0xFFFD}, {"'é'", 'é'}, {"'😀'", '😀'},
		{"'\U0010ffff'", 0x10FFFF}, {"'#'", '#'}, {"'\u0080'", 0x80}, {`'\u007f'`, 0x7F},
	} {
		has1(t, x.text, character(x.want))
	}
	has(t, `"a""b"'c''d'`, str("a"), at(str("b"), 3), at(character('c'), 6), at(character('d'), 9))
	has(t, `"\""x`, str(`"`), at(name("x"), 4))
	has(t, `"\\"x`, str(`\`), at(name("x"), 4))
}

// P5.1: fields that a token does not have are zero, however many tokens there are.
func TestTokensMany(t *testing.T) {
	text := strings.Repeat("f(1);", api.MaxSource/5) + "x"
	var want []api.Token
	for i := range api.MaxSource / 5 {
		want = append(want, at(name("f"), 5*i), at(sign("("), 5*i+1), at(integer(1), 5*i+2), at(sign(")"), 5*i+3), at(sign(";"), 5*i+4))
	}
	has(t, text, append(want, at(name("x"), api.MaxSource-1))...)
}
