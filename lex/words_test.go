package lex_test

import (
	"slices"
	"strings"
	"testing"

	"acheron/lex"
)

// is fails unless a string is a name, a keyword and a sign as is said.
func is(t *testing.T, s string, name, keyword, sign bool) {
	t.Helper()
	if lex.IsName(s) != name || lex.IsKeyword(s) != keyword || lex.IsSign(s) != sign {
		t.Errorf("%s is a name: %v, a keyword: %v, a sign: %v", short(s), lex.IsName(s), lex.IsKeyword(s), lex.IsSign(s))
	}
}

// P5.1: each keyword, and what differs from it by a little.
func TestKeywords(t *testing.T) {
	l := keywords()
	if len(l) != 41 {
		t.Fatalf("%d keywords", len(l))
	}
	for _, s := range l {
		is(t, s, false, true, false)
		for _, other := range []string{strings.ToUpper(s), s + "_", s + "1", "_" + s, strings.ToUpper(s[:1]) + s[1:], s[:1], s[:len(s)-1], s + s} {
			is(t, other, !slices.Contains(l, other), slices.Contains(l, other), false)
		}
		for _, other := range []string{s + " ", " " + s, s + "\x00", "1" + s, s + "é", s + "."} {
			is(t, other, false, false, false)
		}
	}
}

// P5.1: names, their first characters, and their length.
func TestNames(t *testing.T) {
	for _, s := range []string{"x", "x1", "_", "__", "_1", "A", "Z", "a", "z", "a0", "a9", "sys", "iotas", "Iota", "ifs",
		strings.Repeat("a", 40), strings.Repeat("_", 40), "a" + strings.Repeat("9", 39)} {
		is(t, s, true, false, false)
	}
	for _, s := range []string{"", "1", "1x", "9", "0_", "a b", " a", "a ", "a-b", "a.b", "a\n", "\na", "é", "aé", "éa", "\u0430",
		"a\xff", "\xff", "a\x00", "\u017f", "\u212a", "a\u0301", "١", "a١", strings.Repeat("a", 41), strings.Repeat("é", 20),
		strings.Repeat("a", 100000)} {
		is(t, s, false, false, false)
	}
}

// P5.1: each string of one byte, and of a letter and one byte.
func TestEachByte(t *testing.T) {
	const letters = "abcdefghijklmnopqrstuvwxyzABCDEFGHIJKLMNOPQRSTUVWXYZ_"
	for b := range 256 {
		s := string([]byte{byte(b)})
		first := strings.Contains(letters, s)
		is(t, s, first, false, slices.Contains(strings.Fields(shortSigns), s))
		is(t, "k"+s, first || strings.Contains("0123456789", s), false, false)
	}
}

// P5.1: all strings of up to four characters of signs, and some others.
func TestSigns(t *testing.T) {
	l := signs()
	if len(l) != 49 {
		t.Fatalf("%d signs", len(l))
	}
	chars := "+-*/%&|^~!=<>.,;:()[]{}"
	all := []string{""}
	for range 4 {
		var longer []string
		for _, s := range all {
			for _, c := range chars {
				longer = append(longer, s+string(c))
			}
		}
		for _, s := range longer {
			if lex.IsSign(s) != slices.Contains(l, s) || lex.IsName(s) || lex.IsKeyword(s) {
				t.Errorf("%q is a sign: %v, a name: %v, a keyword: %v", s, lex.IsSign(s), lex.IsName(s), lex.IsKeyword(s))
			}
		}
		all = longer
	}
	for _, s := range []string{"", "#", "@", "$", "?", "\\", "`", "\"", "'", " ", " +", "+ ", "+\x00", "\xff", "=\xff", "÷", "＋"} {
		is(t, s, false, false, false)
	}
}
