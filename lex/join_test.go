package lex_test

import (
	"math"
	"math/big"
	"slices"
	"strconv"
	"strings"
	"testing"

	"acheron/api"
	"acheron/lex"
)

// P5.1: the chapter's examples, and tokens of each kind.
func TestJoin(t *testing.T) {
	joins(t, "1.5e+00 ;", number(1.5), sign(";"))
	joins(t, "")
	joins(t, "x", name("x"))
	joins(t, `x := 31 ; "a" 'b' while`, name("x"), sign(":="), integer(31), sign(";"), str("a"), character('b'), key("while"))
	joins(t, `"" ""`, str(""), str(""))
	joins(t, "- 1 . 5 < -", sign("-"), integer(1), sign("."), integer(5), sign("<"), sign("-"))
	joins(t, "0 9223372036854775807", integer(0), integer(math.MaxInt64))
	joins(t, `"it's \"\\\n\t\r\0\u0001\u007fé"`, str("it's \"\\\n\t\r\x00\x01\x7fé"))
	for _, s := range keywords() {
		joins(t, s, key(s))
	}
	for _, s := range signs() {
		joins(t, s+" "+s, sign(s), sign(s))
	}
}

// P5.1: the tokens behind the first end do not count, whatever they are.
func TestJoinEnd(t *testing.T) {
	joins(t, "", end(0))
	joins(t, "", end(7), name(""))
	joins(t, "a", name("a"), end(1), name("while"), api.Token{Kind: 99})
	joins(t, "a", name("a"), end(1), str(strings.Repeat("a", api.MaxSource)))
	joins(t, "a", name("a"), api.Token{Kind: api.TokEnd, Text: "b", Num: 1, At: -1})
}

// P5.1: fields that a kind leaves zero, and the place, are not looked at.
func TestJoinOtherFields(t *testing.T) {
	for _, x := range []struct {
		token api.Token
		want  string
	}{
		{api.Token{Kind: api.TokName, Text: "a", Num: -1, At: -5}, "a"},
		{api.Token{Kind: api.TokKey, Text: "if", Num: -1, At: math.MaxInt}, "if"},
		{api.Token{Kind: api.TokSign, Text: "+", Num: -1, At: math.MinInt}, "+"},
		{api.Token{Kind: api.TokString, Text: "+", Num: -1, At: 1}, `"+"`},
		{api.Token{Kind: api.TokInt, Text: "\xff", Num: 1}, "1"},
		{api.Token{Kind: api.TokReal, Text: "\xff"}, "0e+00"},
		{api.Token{Kind: api.TokChar, Text: "\xff", Num: 65}, "'A'"},
	} {
		joins(t, x.want, x.token)
	}
}

// P5.1 and P5.2: the literal of each character.
func TestJoinEachCharacter(t *testing.T) {
	for c := rune(0); c <= 0x10FFFF; c++ {
		if c >= 0xD800 && c <= 0xDFFF {
			continue
		}
		want, _ := lex.Quote(string(c))
		want = "'" + want[1:len(want)-1] + "'"
		switch c {
		case '\'':
			want = `'\''`
		case '"':
			want = `'"'`
		}
		s, e := lex.Join([]api.Token{character(c)})
		if s != want || e != api.OK {
			t.Fatalf("Join of the character %d: %s, %v, want %s", c, s, e, want)
		}
		l, f := lex.Tokens(s)
		if f != (api.Fault{}) || len(l) != 2 || l[0] != character(c) {
			t.Fatalf("Tokens(%s) = %v, %v", s, l, f)
		}
	}
}

// P5.1: real numbers.
func TestJoinReals(t *testing.T) {
	for _, x := range []struct {
		n    float64
		want string
	}{
		{0, "0e+00"}, {1, "1e+00"}, {10, "1e+01"}, {150, "1.5e+02"}, {0.1, "1e-01"}, {0.25, "2.5e-01"}, {1e100, "1e+100"}, {1e-100, "1e-100"},
		{1e9, "1e+09"}, {1e99, "1e+99"}, {123456789, "1.23456789e+08"}, {5e-324, "5e-324"}, {math.MaxFloat64, "1.7976931348623157e+308"},
		{9007199254740993, "9.007199254740992e+15"}, {1.0 / 3, "3.333333333333333e-01"},
		{math.Ldexp(1, -44), "5.684341886080802e-14"}, {math.Ldexp(1, -1022), "2.2250738585072014e-308"}, {1e23, "1e+23"}, {2e-323, "2e-323"},
		{100, "1e+02"}, {1e21, "1e+21"}, {math.Nextafter(1, 2), "1.0000000000000002e+00"},
	} {
		joins(t, x.want, number(x.n))
	}
}

// P5.1 and P5.2: a real number has as few digits as lead back to it.
func TestJoinFewestDigits(t *testing.T) {
	d := dice(5)
	for k := range 2046 {
		checkFewest(t, int64(k)<<52) // powers of two, whose neighbours are not equally far
		checkFewest(t, int64(k)<<52+1)
		checkFewest(t, int64(k)<<52-1&math.MaxInt64)
	}
	for range 5000 {
		checkFewest(t, d.positive())
	}
	for k := range 600 {
		x, _ := strconv.ParseFloat("1e"+strconv.Itoa(k-300), 64)
		checkFewest(t, number(x).Num)
	}
}

// checkFewest checks that no text with a digit less leads back to a number: of those only the two next to it could.
func checkFewest(t *testing.T, bits int64) {
	t.Helper()
	x := math.Float64frombits(uint64(bits))
	if math.IsNaN(x) || math.IsInf(x, 0) {
		return
	}
	s, e := lex.Join([]api.Token{{Kind: api.TokReal, Num: bits}})
	digits, power, ok := strings.Cut(s, "e")
	whole, fraction, point := strings.Cut(digits, ".")
	if e != api.OK || !ok || len(whole) != 1 || point != (fraction != "") || len(power) < 3 || power[0] != '+' && power[0] != '-' ||
		len(power) > 3 && power[1] == '0' || strings.HasSuffix(fraction, "0") || whole == "0" && (x != 0 || s != "0e+00") {
		t.Fatalf("Join of %v (%x) = %q, %v", x, bits, s, e)
	}
	if l, f := lex.Tokens(s); f != (api.Fault{}) || len(l) != 2 || l[0] != number(x) {
		t.Fatalf("Tokens(%q) = %v, %v, want %x", s, l, f, bits)
	}
	if fraction == "" {
		return
	}
	exact, _ := new(big.Rat).SetString(s)
	unit := new(big.Rat)
	n, _ := strconv.Atoi(power)
	unit.SetString("1e" + strconv.Itoa(n-len(fraction)+1)) // of the last digit but one
	quotient := new(big.Rat).Quo(exact, unit)
	below := new(big.Int).Quo(quotient.Num(), quotient.Denom())
	for _, digits := range []*big.Int{below, new(big.Int).Add(below, big.NewInt(1))} {
		other := new(big.Rat).Mul(new(big.Rat).SetInt(digits), unit)
		if back, _ := other.Float64(); back == x {
			t.Fatalf("Join of %v (%x) = %q, although %v is enough", x, bits, s, other)
		}
	}
}

// P5.1: tokens that Tokens cannot return.
func TestJoinForm(t *testing.T) {
	wrong := []api.Token{{Kind: -1}, {Kind: 8}, {Kind: 99, Text: "a"}, {Kind: math.MaxInt}, {Kind: math.MinInt}, {Kind: 1 << 32}, integer(-1),
		integer(math.MinInt64), number(math.Copysign(0, -1)), number(-1.5), number(math.Inf(1)), number(math.Inf(-1)), number(math.NaN()),
		{Kind: api.TokReal, Num: 0x7FF8000000000000}, {Kind: api.TokReal, Num: -1}, {Kind: api.TokReal, Num: 0x7FF0000000000001},
		{Kind: api.TokReal, Num: math.MaxInt64}, character(-1), character(0xD800), character(0xDFFF), character(0x110000),
		{Kind: api.TokChar, Num: 1 << 32}, {Kind: api.TokChar, Num: 1<<32 + 65}, {Kind: api.TokChar, Num: math.MaxInt64},
		{Kind: api.TokChar, Num: math.MinInt64}, {Kind: api.TokChar, Num: -1<<32 + 65},
		name(""), name("while"), name("1"), name("a b"), name("+"), name("é"), name(strings.Repeat("a", 41)), name("a\xff"), name("a#"),
		key(""), key("x"), key("While"), key("+"), key("while "), sign(""), sign("x"), sign("=:"), sign("+ "), sign("#"), sign("\""), sign("?")}
	for _, s := range notForms() {
		wrong = append(wrong, str(s), str("a"+s), name(s), key(s), sign(s))
	}
	for _, w := range wrong {
		refuses(t, api.ErrForm, w)
		refuses(t, api.ErrForm, name("a"), w)
		refuses(t, api.ErrForm, w, name("a"), end(0))
	}
}

// P5.1: texts of the greatest length, and longer ones; a wrong token comes first, wherever it stands.
func TestJoinLimit(t *testing.T) {
	a := func(n int) api.Token { return str(strings.Repeat("a", n)) }
	joins(t, `"`+strings.Repeat("a", api.MaxSource-2)+`"`, a(api.MaxSource-2))
	refuses(t, api.ErrLimit, a(api.MaxSource-1))
	joins(t, `x "`+strings.Repeat("a", api.MaxSource-4)+`"`, name("x"), a(api.MaxSource-4))
	refuses(t, api.ErrLimit, name("x"), a(api.MaxSource-3))
	joins(t, `"`+strings.Repeat("a", api.MaxSource-4)+`" x`, a(api.MaxSource-4), name("x"))
	refuses(t, api.ErrLimit, a(api.MaxSource-3), name("x"))
	refuses(t, api.ErrLimit, a(api.MaxSource-2), name("x"))
	refuses(t, api.ErrLimit, a(api.MaxSource), name("x"), end(0), name(""))
	refuses(t, api.ErrForm, a(api.MaxSource), name("x"), name(""))
	refuses(t, api.ErrForm, a(api.MaxSource), str("\xff"))
	refuses(t, api.ErrForm, name(""), a(api.MaxSource))
	refuses(t, api.ErrForm, str("\xff"+strings.Repeat("a", api.MaxSource)))
	joins(t, `"`+strings.Repeat(`\n`, api.MaxSource/2-1)+`"`, str(strings.Repeat("\n", api.MaxSource/2-1)))
	refuses(t, api.ErrLimit, str(strings.Repeat("\n", api.MaxSource/2)))
	many := slices.Repeat([]api.Token{sign(";")}, api.MaxSource/2)
	joins(t, strings.Repeat("; ", api.MaxSource/2-1)+";", many...)
	refuses(t, api.ErrLimit, append(many, sign(";"))...)
	refuses(t, api.ErrLimit, slices.Repeat([]api.Token{sign(";")}, 1000000)...)
}
