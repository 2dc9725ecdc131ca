package lex_test

import (
	"strings"
	"testing"

	"acheron/api"
)

// P5.1: the chapter's examples.
func TestFaultExamples(t *testing.T) {
	fails(t, "12ab", 0, api.ErrSyntax)
	fails(t, "37r1", 0, api.ErrRange)
	fails(t, "'ab'", 0, api.ErrSyntax)
	fails(t, `"a`, 0, api.ErrEnd)
	fails(t, "1e", 0, api.ErrSyntax)
	fails(t, "1e-", 0, api.ErrSyntax)
	fails(t, "x ? y", 2, api.ErrSyntax)
}

// P5.1: a text that is too long, which comes before all that is wrong in it.
func TestFaultLongText(t *testing.T) {
	has(t, strings.Repeat("\n", api.MaxSource))
	for _, s := range []string{" ", "\n", "a", "\xff", "?", "\"", "#", "1"} {
		fails(t, strings.Repeat(s, api.MaxSource+1), 0, api.ErrLimit)
	}
	fails(t, strings.Repeat(" ", api.MaxSource)+"?", 0, api.ErrLimit)
	fails(t, strings.Repeat(" ", api.MaxSource-1)+"?", api.MaxSource-1, api.ErrSyntax)
	fails(t, "#"+strings.Repeat("é", api.MaxSource/2), 0, api.ErrLimit)
}

// P5.1: bytes that are no characters, everywhere.
func TestFaultForm(t *testing.T) {
	for _, s := range notForms() {
		for _, before := range []string{"", " ", "a", "a ", "+", "12", "1.5", "1e5", "#", "# é\ufffd", "a#\n#", `"`, `"a`, `"é`, `"\n`,
			"\"\ufffd", `'`, `'a`, `'ab`, `""`, `'a'`} {
			for _, behind := range []string{"", "a", "\"", "'", "\n", " ?"} {
				fails(t, before+s+behind, len(before), api.ErrForm)
			}
		}
	}
}

// P5.1: characters with which no token begins.
func TestFaultCharacter(t *testing.T) {
	for c := range rune(0x300) {
		if c < 128 && strings.ContainsRune(" \t\n\r#\"'0123456789_"+shortSigns, c) || c >= 'a' && c <= 'z' || c >= 'A' && c <= 'Z' {
			continue
		}
		s := string(c)
		for _, before := range []string{"", "a", "a ", "12", "+", "1.5", "# x\n", `"x"`, "1.", "1e5"} {
			fails(t, before+s, len(before), api.ErrSyntax)
			fails(t, before+s+"\xff", len(before), api.ErrSyntax)
		}
	}
	for _, s := range []string{"€", "\ufeff", "\ufffd", "😀", "\U0010ffff", "\u0430", "\u2028", "\u00a0"} {
		fails(t, "a"+s, 1, api.ErrSyntax)
	}
}

// P5.1: names that are too long, whatever is behind them.
func TestFaultLongName(t *testing.T) {
	for _, s := range []string{strings.Repeat("a", 41), "while" + strings.Repeat("a", 36), strings.Repeat("_", 41),
		"a" + strings.Repeat("0", 40), strings.Repeat("z", 60000), strings.Repeat("while", 9)} {
		fails(t, s, 0, api.ErrLimit)
		for _, behind := range []string{" ", "\xff", "?", "é", "\"", "1e"} {
			fails(t, s+behind, 0, api.ErrLimit)
		}
		fails(t, "a+"+s, 2, api.ErrLimit)
		fails(t, "? "+s, 0, api.ErrSyntax)
	}
}

// P5.1: numbers that are too long, which comes before all that is wrong in them.
func TestFaultLongNumber(t *testing.T) {
	for _, s := range []string{strings.Repeat("0", 101), strings.Repeat("9", 101), "1" + strings.Repeat("a", 100),
		"1." + strings.Repeat("0", 99), "1e+" + strings.Repeat("0", 98), "99r" + strings.Repeat("1", 98), "1" + strings.Repeat("_", 60000),
		"1" + strings.Repeat("0", 97) + "e-1", "1" + strings.Repeat("0", 98) + ".0", "1." + strings.Repeat("0", 96) + "e+1"} {
		fails(t, s, 0, api.ErrLimit)
		fails(t, "a "+s+"\xff", 2, api.ErrLimit)
	}
	fails(t, strings.Repeat("9", 100), 0, api.ErrRange)
	fails(t, "1"+strings.Repeat("a", 99), 0, api.ErrSyntax)
	fails(t, "1"+strings.Repeat("_", 99), 0, api.ErrSyntax)
	has(t, "1"+strings.Repeat("0", 96)+"e-1", number(1e95))
	has(t, strings.Repeat("0", 100)+".", integer(0), at(sign("."), 100))
	has(t, strings.Repeat("0", 100)+"+", integer(0), at(sign("+"), 100))
	has(t, strings.Repeat("0", 100)+"+1", integer(0), at(sign("+"), 100), at(integer(1), 101))
	has(t, "1."+strings.Repeat("0", 98)+".5", number(1), at(sign("."), 100), at(integer(5), 101))
}

// P5.1: numbers without the form of one.
func TestFaultNumber(t *testing.T) {
	for _, s := range []string{"1a", "1_", "1_000", "0x10", "1e", "1E", "1e5e", "1e5e5", "1ee5", "1e+5e", "1e+5x", "1.5x", "1.5e", "1.5r1",
		"1.5ex", "1e5.5", "1e+5.5", "1x.5", "16r1.5", "16r", "2r", "16rg", "16r1_", "16r_", "16rr1", "16R1F", "16r1r1", "2r2", "2r12", "2r3",
		"10ra", "8r8", "35rz", "1e_5", "1e5_", "1_e5", "1_0e5", "1r.5", "1r", "99r", "99r_", "0r", "37r1.5", "2r" + strings.Repeat("1", 90) + "2",
		"1f", "1l", "1u", "1e1e1", "12r1c"} {
		fails(t, s, 0, api.ErrSyntax)
		fails(t, "a+"+s+"\xff", 2, api.ErrSyntax)
	}
	fails(t, "1e+", 0, api.ErrSyntax)
	fails(t, "1e+x", 0, api.ErrSyntax)
	fails(t, "1e--5", 0, api.ErrSyntax)
	fails(t, "1.5e+", 0, api.ErrSyntax)
	fails(t, "1_e+5", 0, api.ErrSyntax)
	fails(t, "1e5e+5", 0, api.ErrSyntax)
	fails(t, "(1.5.5e)", 5, api.ErrSyntax)
}

// P5.1: numbers and bases that are out of range; the base comes before its digits.
func TestFaultRange(t *testing.T) {
	for _, s := range []string{"0r0", "0r1", "1r0", "1r1", "1rz", "37r1", "37rz", "99r1", "0r9", "1r2", "00r1", "99999999999999999999r1",
		"18446744073709551618r1", "4294967298r1", "9223372036854775808", "9223372036854775809", "18446744073709551616",
		"18446744073709551617", strings.Repeat("9", 100), "16r8000000000000000", "16rffffffffffffffff", "2r1" + strings.Repeat("0", 63),
		"36r1y2p0ij32e8e8", "36r" + strings.Repeat("z", 97), "1e999", "1e309", "1.8e308", "1.7976931348623159e308", "1e400", "1.0e+309",
		"1e99999999999999999999", "0.1e310", "1797693134862315" + strings.Repeat("9", 79) + "e+214"} {
		fails(t, s, 0, api.ErrRange)
		fails(t, "a+"+s+"\xff", 2, api.ErrRange)
	}
}

// P5.1: what must not be in a literal.
func TestFaultInLiteral(t *testing.T) {
	for _, quote := range []string{`"`, `'`} {
		for c := range byte(0x20) {
			if c != '\n' {
				fails(t, "x "+quote+"a"+string(rune(c))+quote, 4, api.ErrSyntax)
				fails(t, quote+string(rune(c)), 1, api.ErrSyntax)
			}
		}
		fails(t, quote+"\x7f"+quote, 1, api.ErrSyntax)
		for _, bad := range []string{`\q`, `\ `, `\a`, `\b`, `\x41`, `\1`, `\U0041`, `\N`, `\é`, "\\\xff", "\\\n", "\\\t", "\\\x00", `\u`, `\u1`, `\u12`,
			`\u123`, `\u123g`, `\ug123`, `\u 123`, `\u+123`, `\u-001`, `\u00_1`, `\u123é`, "\\u12\xff", "\\u12\n", `\ud8`, `\/`, `\#`} {
			fails(t, quote+bad+quote, 1, api.ErrSyntax)
			fails(t, quote+bad, 1, api.ErrSyntax)
			fails(t, quote+"é\\n"+bad+quote, 5, api.ErrSyntax)
		}
		for _, bad := range []string{`\ud800`, `\uD800`, `\udbff`, `\udc00`, `\udfff`, `\uDFFF`, `\ud83d\ude00`} {
			fails(t, quote+bad+quote, 1, api.ErrRange)
			fails(t, quote+bad, 1, api.ErrRange)
			fails(t, quote+"é"+bad+"\xff", 3, api.ErrRange)
		}
		fails(t, quote+`\`, 1, api.ErrSyntax)
		fails(t, quote+"\r\n"+quote, 1, api.ErrSyntax)
	}
}

// P5.1: literals without an end, unless something else is wrong in them.
func TestFaultEnd(t *testing.T) {
	for _, quote := range []string{`"`, `'`} {
		for _, s := range []string{"", "a", "é", "ab", `\n`, `\\`, `\` + quote, `\u0041`, "\ufffd"} {
			fails(t, quote+s, 0, api.ErrEnd)
			fails(t, quote+s+"\n", 0, api.ErrEnd)
			fails(t, quote+s+"\n"+quote, 0, api.ErrEnd)
			fails(t, quote+s+"\n\xff", 0, api.ErrEnd)
			fails(t, "a "+quote+s+"\n\\q", 2, api.ErrEnd)
			fails(t, "'x'"+quote+s, 3, api.ErrEnd)
			fails(t, quote+s+"\xff", 1+len(s), api.ErrForm)
			fails(t, quote+s+"\t", 1+len(s), api.ErrSyntax)
			fails(t, quote+s+`\q`+"\n", 1+len(s), api.ErrSyntax)
			fails(t, quote+s+`\ud800`, 1+len(s), api.ErrRange)
		}
	}
	fails(t, `"'`, 0, api.ErrEnd)
	fails(t, `'"`, 0, api.ErrEnd)
}

// P5.1: character literals with no character or several, which is found at the closing quote.
func TestFaultCharLiteral(t *testing.T) {
	for _, s := range []string{"", "ab", "éé", "a ", `\na`, `\n\n`, `\u00411`, "a\"", "e\u0301", strings.Repeat("x", 1000)} {
		fails(t, "'"+s+"'", 0, api.ErrSyntax)
		fails(t, "a 'b' '"+s+"'\xff", 6, api.ErrSyntax)
	}
	fails(t, "'''", 0, api.ErrSyntax)
	fails(t, "'ab", 0, api.ErrEnd)
	fails(t, "'ab\n'", 0, api.ErrEnd)
	fails(t, "'ab\xff'", 3, api.ErrForm)
	fails(t, "'ab\t'", 3, api.ErrSyntax)
	fails(t, `'ab\ud800'`, 3, api.ErrRange)
	fails(t, `'ab\q'`, 3, api.ErrSyntax)
}

// P5.1: of several faults the leftmost one.
func TestFaultFirst(t *testing.T) {
	bad := []struct {
		text string
		code api.Errno
	}{{"?", api.ErrSyntax}, {"\xff", api.ErrForm}, {"1x", api.ErrSyntax}, {"99r1", api.ErrRange}, {strings.Repeat("n", 41), api.ErrLimit},
		{"''", api.ErrSyntax}, {"\"\n", api.ErrEnd}, {"1e999", api.ErrRange}, {strings.Repeat("1", 101), api.ErrLimit}}
	for _, a := range bad {
		for _, b := range bad {
			fails(t, "ok + "+a.text+" "+b.text, 5, a.code)
		}
	}
}
