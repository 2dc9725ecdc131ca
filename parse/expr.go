package parse

import "acheron/api"

// operator is a sign between two expressions, and its precedence.
type operator struct {
	sign  string
	level int
}

// Levels of operators that group from the right.
const (
	assignLevel = 1
	consLevel   = 4
)

var operators = [...]operator{
	{"=", assignLevel}, {":=", assignLevel}, {"<-=", assignLevel}, {"+=", assignLevel}, {"-=", assignLevel},
	{"*=", assignLevel}, {"/=", assignLevel}, {"%=", assignLevel}, {"&=", assignLevel}, {"|=", assignLevel},
	{"^=", assignLevel}, {"<<=", assignLevel}, {">>=", assignLevel},
	{"||", 2}, {"&&", 3}, {"::", consLevel}, {"|", 5}, {"^", 6}, {"&", 7}, {"==", 8}, {"!=", 8},
	{"<", 9}, {"<=", 9}, {">", 9}, {">=", 9}, {"<<", 10}, {">>", 10}, {"+", 11}, {"-", 11},
	{"*", 12}, {"/", 12}, {"%", 12},
}

// levelOf returns the precedence of an operator, and 0 of what is none.
func levelOf(sign string) int {
	for _, o := range operators {
		if sign == o.sign {
			return o.level
		}
	}
	return 0
}

var unarySigns = [...]string{"+", "-", "!", "~", "++", "--", "<-", "hd", "tl", "len", "tagof"}

func (p *parser) fillPrefixes() {
	p.prefixes = map[string]func() api.Node{"load": p.load, "ref": p.newRef, "array": p.array, "chan": p.newChan}
	for _, word := range unarySigns {
		p.prefixes[word] = p.unaryBehind
	}
	for _, word := range basicTypes {
		p.prefixes[word] = p.cast
	}
}

// expr reads an expression.
func (p *parser) expr() api.Node { return p.binary(assignLevel) }

// binary reads an expression whose operators, outside of parentheses, have at least a level.
func (p *parser) binary(least int) api.Node {
	n := p.unary()
	for {
		level := levelOf(p.word(0))
		if level < least || level == 0 {
			return n
		}
		n = p.operation(n, level)
	}
}

// operation reads an operator and what stands behind it.
func (p *parser) operation(left api.Node, level int) api.Node {
	sign := p.next().Text
	switch level {
	case assignLevel:
		return node(api.NAssign, sign, left.At, left, p.binary(level))
	case consLevel:
		return node(api.NBinary, sign, left.At, left, p.binary(level))
	}
	return node(api.NBinary, sign, left.At, left, p.binary(level+1))
}

func (p *parser) unary() api.Node {
	if read := p.prefixes[p.word(0)]; read != nil {
		return read()
	}
	return p.postfix()
}

func (p *parser) unaryBehind() api.Node {
	t := p.next()
	if t.Text == "++" || t.Text == "--" {
		t.Text += "x"
	}
	return node(api.NUnary, t.Text, t.At, p.unary())
}

func (p *parser) cast() api.Node {
	kind := p.basicType()
	return node(api.NCast, "", kind.At, kind, p.unary())
}

func (p *parser) load() api.Node {
	at := p.next().At
	module := p.readName().Text
	return node(api.NLoad, module, at, p.unary())
}

// newRef only notes that no call follows: if that is so of a ref around it, too, the outer one comes first.
func (p *parser) newRef() api.Node {
	index := p.at
	at := p.next().At
	value := p.unary()
	if value.Kind != api.NCall {
		p.wrongRef = min(p.wrongRef, index)
	}
	return node(api.NNewRef, "", at, value)
}

func (p *parser) newChan() api.Node {
	at := p.next().At
	p.expect("of")
	return node(api.NNewChan, "", at, p.anyType())
}

// array reads what begins with "array". An array of given elements alone is what a suffix may follow.
func (p *parser) array() api.Node {
	if p.word(1) == "[" && p.word(2) == "]" {
		return p.postfix()
	}
	at := p.next().At
	if p.take("of") {
		p.expect("byte")
		return node(api.NArrByte, "", at, p.unary())
	}
	p.expect("[")
	length := p.expr()
	p.expect("]", "of")
	return node(api.NNewArr, "", at, length, p.anyType())
}

func (p *parser) postfix() api.Node {
	n := p.primary()
	for {
		switch p.word(0) {
		case "(":
			p.next()
			n = node(api.NCall, "", n.At, append([]api.Node{n}, listUntil(p, ")", p.expr)...)...)
		case ".":
			p.next()
			n = node(api.NDot, p.readName().Text, n.At, n)
		case "->":
			p.next()
			n = node(api.NArrow, p.readName().Text, n.At, n)
		case "[":
			n = p.indexed(n)
		case "++", "--":
			n = node(api.NUnary, "x"+p.next().Text, n.At, n)
		default:
			return n
		}
	}
}

// indexed reads an index or the ends of a slice.
func (p *parser) indexed(n api.Node) api.Node {
	var first api.Node
	p.expect("[")
	if !p.is(":") {
		first = p.expr()
		if p.take("]") {
			return node(api.NIndex, "", n.At, n, first)
		}
	}
	p.expect(":")
	return node(api.NSlice, "", n.At, n, first, p.exprUntil("]"))
}

func (p *parser) primary() api.Node {
	switch p.token(0).Kind {
	case api.TokInt, api.TokChar:
		return p.number(api.NInt)
	case api.TokReal:
		return p.number(api.NReal)
	case api.TokString:
		return p.leaf(api.NString)
	case api.TokName:
		return p.leaf(api.NName)
	}
	switch p.word(0) {
	case "iota":
		return p.leaf(api.NName)
	case "nil":
		return node(api.NNil, "", p.next().At)
	case "(":
		return p.parentheses()
	case "array":
		return p.elements(api.NArrOf, "array", "[", "]", "of", "{")
	case "list":
		return p.elements(api.NListOf, "list", "of", "{")
	}
	panic(p.fault(api.ErrSyntax))
}

func (p *parser) number(kind int) api.Node {
	t := p.next()
	return api.Node{Kind: kind, Num: t.Num, At: t.At}
}

func (p *parser) parentheses() api.Node {
	at := p.next().At
	l := list(p, ",", p.expr)
	p.expect(")")
	if len(l) == 1 {
		return l[0]
	}
	return node(api.NTuple, "", at, l...)
}

// elements reads some words, and the elements behind them.
func (p *parser) elements(kind int, words ...string) api.Node {
	at := p.token(0).At
	p.expect(words...)
	return node(kind, "", at, listUntil(p, "}", p.expr)...)
}
