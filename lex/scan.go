package lex

import (
	"unicode/utf8"

	"acheron/api"
)

// Tokens returns the tokens of a text, or the first fault.
func Tokens(text string) (l []api.Token, f api.Fault) {
	if len(text) > api.MaxSource {
		return nil, api.Fault{Code: api.ErrLimit}
	}
	defer func() {
		if found, ok := recover().(api.Fault); ok {
			l, f = nil, found
		}
	}()
	s := scanner{reader: reader{text: text}}
	s.scan()
	return s.tokens, api.Fault{}
}

// reader reads a text from its beginning on. A fault in it leaves by a panic, here and in the scanner.
type reader struct {
	text string
	at   int
}

func (r *reader) rest() string { return r.text[r.at:] }

func (r *reader) atEnd() bool { return r.at == len(r.text) }

// while reads characters as long as they fit, and returns them. A byte that begins no character is a fault only if
// U+FFFD fits, for which a range takes it: elsewhere it ends what is read, whose own faults come first.
func (r *reader) while(fits func(c rune) bool) string {
	rest := r.rest()
	length := len(rest)
	for i, c := range rest {
		if !fits(c) {
			length = i
			break
		}
		if c == utf8.RuneError {
			checkForm(r.text, r.at+i)
		}
	}
	r.at += length
	return rest[:length]
}

// checkForm panics unless a character begins at an index of a text.
func checkForm(text string, at int) {
	if c, size := utf8.DecodeRuneInString(text[at:]); c == utf8.RuneError && size == 1 {
		panic(api.Fault{At: at, Code: api.ErrForm})
	}
}

// scanner collects the tokens of the text that it reads.
type scanner struct {
	reader
	tokens []api.Token
}

func (s *scanner) scan() {
	for s.skip(); !s.atEnd(); s.skip() {
		begin := s.at
		t := s.token()
		t.At = begin
		s.tokens = append(s.tokens, t)
	}
	s.tokens = append(s.tokens, api.Token{Kind: api.TokEnd, At: s.at})
}

// skip reads blanks and comments.
func (s *scanner) skip() {
	for s.while(isBlank); !s.atEnd() && s.text[s.at] == '#'; s.while(isBlank) {
		s.while(isInLine)
	}
}

// token reads a token, and returns it without its place.
func (s *scanner) token() api.Token {
	c := rune(s.text[s.at])
	switch {
	case isDigit(c):
		return s.number()
	case isNamePart(c):
		return s.word()
	case c == '"':
		return api.Token{Kind: api.TokString, Text: s.literal()}
	case c == '\'':
		return api.Token{Kind: api.TokChar, Num: int64(s.char())}
	}
	return s.sign()
}

func (s *scanner) number() api.Token {
	begin := s.at
	s.at += numberLength(s.rest())
	t, e := numberToken(s.text[begin:s.at])
	if e != api.OK {
		panic(api.Fault{At: begin, Code: e})
	}
	return t
}

func (s *scanner) word() api.Token {
	begin := s.at
	word := s.while(isNamePart)
	if len(word) > api.MaxName {
		panic(api.Fault{At: begin, Code: api.ErrLimit})
	}
	if IsKeyword(word) {
		return api.Token{Kind: api.TokKey, Text: word}
	}
	return api.Token{Kind: api.TokName, Text: word}
}

func (s *scanner) sign() api.Token {
	sign := leadingSign(s.rest())
	if sign == "" {
		checkForm(s.text, s.at)
		panic(api.Fault{At: s.at, Code: api.ErrSyntax})
	}
	s.at += len(sign)
	return api.Token{Kind: api.TokSign, Text: sign}
}
