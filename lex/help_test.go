package lex_test

import (
	"math"
	"slices"
	"strconv"
	"strings"
	"testing"

	"acheron/api"
	"acheron/lex"
)

// The words of the chapter's section Terms.
const (
	allKeywords = "adt alt array big break byte case chan con continue do else exception exit fn for hd if implement int" +
		" iota len list load module nil of or pick raise real ref return self spawn string tagof tl to type while"
	shortSigns = "+ - * / % & | ^ ~ ! = < > . , ; : ( ) [ ] { }"
	longSigns  = "== != <= >= << >> && || ++ -- += -= *= /= %= &= |= ^= := <- -> => :: <<= >>= <-="
)

func keywords() []string { return strings.Fields(allKeywords) }
func signs() []string    { return strings.Fields(shortSigns + " " + longSigns) }

func name(s string) api.Token    { return api.Token{Kind: api.TokName, Text: s} }
func key(s string) api.Token     { return api.Token{Kind: api.TokKey, Text: s} }
func sign(s string) api.Token    { return api.Token{Kind: api.TokSign, Text: s} }
func integer(n int64) api.Token  { return api.Token{Kind: api.TokInt, Num: n} }
func character(c rune) api.Token { return api.Token{Kind: api.TokChar, Num: int64(c)} }
func str(s string) api.Token     { return api.Token{Kind: api.TokString, Text: s} }
func end(at int) api.Token       { return api.Token{Kind: api.TokEnd, At: at} }

func number(x float64) api.Token {
	return api.Token{Kind: api.TokReal, Num: int64(math.Float64bits(x))}
}

// at returns a token with its place.
func at(t api.Token, at int) api.Token {
	t.At = at
	return t
}

// bare returns the tokens without the one at the end, and without their places.
func bare(l []api.Token) []api.Token {
	var r []api.Token
	for _, t := range l {
		if t.Kind != api.TokEnd {
			r = append(r, at(t, 0))
		}
	}
	return r
}

// has fails unless a text has the tokens, with their places, and the end behind them.
func has(t *testing.T, text string, want ...api.Token) {
	t.Helper()
	want = append(want, end(len(text)))
	got, f := lex.Tokens(text)
	if f != (api.Fault{}) || !slices.Equal(got, want) {
		t.Errorf("Tokens(%s) = %v, %v, want %v", short(text), got, f, want)
	}
}

// has1 fails unless a text is one token, and nothing else.
func has1(t *testing.T, text string, want api.Token) {
	t.Helper()
	has(t, text, want)
}

// fails fails unless a text has the fault, and no tokens.
func fails(t *testing.T, text string, at int, code api.Errno) {
	t.Helper()
	l, f := lex.Tokens(text)
	if f != (api.Fault{At: at, Code: code}) || len(l) != 0 {
		t.Errorf("Tokens(%s) = %d tokens, %v, want the fault %d at %d", short(text), len(l), f, int(code), at)
	}
}

// joins fails unless Join of the tokens is the text.
func joins(t *testing.T, want string, l ...api.Token) {
	t.Helper()
	if s, e := lex.Join(l); s != want || e != api.OK {
		t.Errorf("Join(%v) = %s, %v, want %s", l[:min(len(l), 9)], short(s), e, short(want))
	}
}

// refuses fails unless Join of the tokens has the error, and no text.
func refuses(t *testing.T, code api.Errno, l ...api.Token) {
	t.Helper()
	if s, e := lex.Join(l); s != "" || e != code {
		t.Errorf("Join(%v) = %s, %v, want the error %v", l[:min(len(l), 9)], short(s), e, code)
	}
}

func short(s string) string {
	if len(s) > 120 {
		return strconv.Quote(s[:120]) + " .. (" + strconv.Itoa(len(s)) + " bytes)"
	}
	return strconv.Quote(s)
}

// notForms has bytes that are no encoding of characters, all of them from the first byte on.
func notForms() []string {
	return []string{"\xff", "\x80", "\xbf", "\xc0\x80", "\xc1\xbf", "\xc3", "\xe2\x82", "\xe0\x80\x80", "\xed\xa0\x80",
		"\xed\xbf\xbf", "\xf0\x9f\x98", "\xf0\x80\x80\x80", "\xf4\x90\x80\x80", "\xf5\x80\x80\x80", "\xc3\xc3\xa9"}
}

// dice is a sequence of numbers that is the same in each run.
type dice uint64

func (d *dice) half() uint64 {
	*d = *d*6364136223846793005 + 1442695040888963407
	return uint64(*d) >> 32
}

func (d *dice) below(n int) int { return int(d.half() % uint64(n)) }

// positive returns a number of which each size is as likely.
func (d *dice) positive() int64 {
	high := d.half()
	low := d.half()
	return int64((high<<32 | low) >> (1 + d.below(63)))
}

func pick[T any](d *dice, l []T) T { return l[d.below(len(l))] }
