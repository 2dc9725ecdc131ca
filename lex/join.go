package lex

import (
	"math"
	"strconv"
	"strings"
	"unicode/utf8"

	"acheron/api"
)

// Join returns a text with the tokens.
func Join(l []api.Token) (string, api.Errno) {
	var b strings.Builder
	for _, t := range l {
		if t.Kind == api.TokEnd {
			break
		}
		word, e := written(t)
		if e != api.OK {
			return "", e
		}
		if b.Len() > api.MaxSource { // the tokens behind may still be wrong, which counts more
			continue
		}
		if b.Len() > 0 {
			b.WriteByte(' ')
		}
		b.WriteString(word)
	}
	if b.Len() > api.MaxSource {
		return "", api.ErrLimit
	}
	return b.String(), api.OK
}

// written returns the text of a token.
func written(t api.Token) (string, api.Errno) {
	switch t.Kind {
	case api.TokName:
		return formed(t.Text, IsName(t.Text))
	case api.TokKey:
		return formed(t.Text, IsKeyword(t.Text))
	case api.TokSign:
		return formed(t.Text, IsSign(t.Text))
	case api.TokInt:
		return formed(strconv.FormatInt(t.Num, 10), t.Num >= 0)
	case api.TokReal:
		return writtenReal(t.Num)
	case api.TokString:
		return Quote(t.Text)
	case api.TokChar:
		return writtenChar(t.Num)
	}
	return "", api.ErrForm
}

// formed returns a text that has its form, and an error otherwise.
func formed(s string, ok bool) (string, api.Errno) {
	if !ok {
		return "", api.ErrForm
	}
	return s, api.OK
}

func writtenReal(bits int64) (string, api.Errno) {
	x := math.Float64frombits(uint64(bits))
	if bits < 0 || math.IsInf(x, 1) || math.IsNaN(x) {
		return "", api.ErrForm
	}
	return strconv.FormatFloat(x, 'e', -1, 64), api.OK
}

func writtenChar(n int64) (string, api.Errno) {
	if n < 0 || n > utf8.MaxRune || !utf8.ValidRune(rune(n)) {
		return "", api.ErrForm
	}
	return quoted(string(rune(n)), '\''), api.OK
}
