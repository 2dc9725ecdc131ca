package parse

import (
	"math"
	"slices"

	"acheron/api"
)

// noRef is behind all tokens.
const noRef = math.MaxInt

// parser reads tokens. A fault leaves it by a panic.
type parser struct {
	tokens   []api.Token // without the end
	end      api.Token
	at       int // how many tokens are read
	wrongRef int // the first token "ref" that no call follows, among those that are read

	// What begins with a word, by this word.
	statements, prefixes, types map[string]func() api.Node
}

func newParser(l []api.Token) *parser {
	p := &parser{tokens: l, wrongRef: noRef}
	end := slices.IndexFunc(l, func(t api.Token) bool { return t.Kind == api.TokEnd })
	if end >= 0 {
		p.tokens, p.end = l[:end], l[end]
	}
	p.fillTypes()
	p.fillPrefixes()
	p.fillStatements()
	return p
}

// token returns the token that is so many tokens behind the next one.
func (p *parser) token(ahead int) api.Token {
	if i := p.at + ahead; i < len(p.tokens) {
		return p.tokens[i]
	}
	return p.end
}

// word returns the text of such a token, if it is a keyword or a sign; otherwise no text.
func (p *parser) word(ahead int) string {
	t := p.token(ahead)
	if t.Kind == api.TokKey || t.Kind == api.TokSign {
		return t.Text
	}
	return ""
}

// fault returns the fault of the next token, if no token before it is wrong.
func (p *parser) fault(code api.Errno) api.Fault {
	if p.wrongRef < p.at {
		return api.Fault{At: p.tokens[p.wrongRef].At, Code: api.ErrSyntax}
	}
	return api.Fault{At: p.token(0).At, Code: code}
}

// is reports whether the next token is one of some words.
func (p *parser) is(words ...string) bool { return slices.Contains(words, p.word(0)) }

// isName reports whether the next token is a name.
func (p *parser) isName() bool { return p.token(0).Kind == api.TokName }

// next reads a token.
func (p *parser) next() api.Token {
	t := p.token(0)
	p.at++
	return t
}

// expect reads some words, one behind the other.
func (p *parser) expect(words ...string) {
	for _, word := range words {
		if !p.take(word) {
			panic(p.fault(api.ErrSyntax))
		}
	}
}

// take reads a word, if it is there, and reports that.
func (p *parser) take(word string) bool {
	if !p.is(word) {
		return false
	}
	p.at++
	return true
}

// readKind reads a token of a kind.
func (p *parser) readKind(kind int) api.Token {
	if p.token(0).Kind != kind {
		panic(p.fault(api.ErrSyntax))
	}
	return p.next()
}

func (p *parser) readName() api.Token { return p.readKind(api.TokName) }

// readEnd finds that no token is left, and that none was wrong.
func (p *parser) readEnd() {
	if p.token(0).Kind != api.TokEnd || p.wrongRef != noRef {
		panic(p.fault(api.ErrSyntax))
	}
}

// list reads elements, one or more, between which a word stands.
func list[T any](p *parser, between string, read func() T) []T {
	l := []T{read()}
	for p.take(between) {
		l = append(l, read())
	}
	return l
}

// listUntil reads elements between which commas stand, perhaps none, and the word behind them.
func listUntil[T any](p *parser, last string, read func() T) []T {
	if p.take(last) {
		return nil
	}
	l := list(p, ",", read)
	p.expect(last)
	return l
}

// until reads elements, perhaps none, and the word behind them.
func (p *parser) until(last string, read func() api.Node) []api.Node {
	var l []api.Node
	for !p.take(last) {
		l = append(l, read())
	}
	return l
}

// behind reads what stands behind a word, if the word is there.
func (p *parser) behind(word string, read func() api.Node) api.Node {
	if !p.take(word) {
		return api.Node{}
	}
	return read()
}

// exprUntil reads an expression, if it is there, and the word behind it.
func (p *parser) exprUntil(last string) api.Node {
	if p.take(last) {
		return api.Node{}
	}
	n := p.expr()
	p.expect(last)
	return n
}

func node(kind int, text string, at int, kids ...api.Node) api.Node {
	return api.Node{Kind: kind, Text: text, At: at, Kids: kids}
}

// leaf reads a token, and returns a node with its text.
func (p *parser) leaf(kind int) api.Node {
	t := p.next()
	return node(kind, t.Text, t.At)
}

// nameNode reads a name.
func (p *parser) nameNode() api.Node {
	t := p.readName()
	return node(api.NName, t.Text, t.At)
}
