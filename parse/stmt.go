package parse

import "acheron/api"

// short is a statement that is a word, and an expression or perhaps a name behind it.
type short struct {
	word string
	kind int
}

var (
	withExpr = [...]short{{"spawn", api.NSpawn}, {"raise", api.NRaise}}
	withName = [...]short{{"break", api.NBreak}, {"continue", api.NContinue}}
)

func (p *parser) fillStatements() {
	p.statements = map[string]func() api.Node{
		";": p.empty, "{": p.guardedBlock, "if": p.ifElse, "while": p.while, "do": p.doWhile, "for": p.forLoop,
		"case": p.caseOf, "alt": p.alt, "pick": p.pick, "return": p.returned, "exit": p.exit,
	}
	for _, s := range withExpr {
		p.statements[s.word] = func() api.Node { return p.exprAs(s.kind, p.next().At) }
	}
	for _, s := range withName {
		p.statements[s.word] = func() api.Node { return p.jump(s.kind) }
	}
}

func (p *parser) statement() api.Node {
	if read := p.statements[p.word(0)]; read != nil {
		return read()
	}
	if p.isName() && (p.word(1) == ":" || p.word(1) == ",") {
		return p.declared()
	}
	return p.exprAs(api.NExpr, p.token(0).At)
}

// declared reads a statement that begins with names and ":".
func (p *parser) declared() api.Node {
	names := p.names()
	switch {
	case p.is("con"):
		return p.constant(names)
	case len(names) == 1 && p.is("while", "do", "for", "case", "alt", "pick", "{"):
		return node(api.NLabel, names[0].Text, names[0].At, p.statement())
	}
	return p.variable(names)
}

// exprAs reads an expression, and ";".
func (p *parser) exprAs(kind, at int) api.Node {
	value := p.expr()
	p.expect(";")
	return node(kind, "", at, value)
}

// jump reads a word, perhaps a label, and ";".
func (p *parser) jump(kind int) api.Node {
	at := p.next().At
	label := p.nameIfThere()
	p.expect(";")
	return node(kind, label, at)
}

// nameIfThere reads a name, if one follows, and returns its text.
func (p *parser) nameIfThere() string {
	if !p.isName() {
		return ""
	}
	return p.next().Text
}

func (p *parser) empty() api.Node { return node(api.NEmpty, "", p.next().At) }

func (p *parser) exit() api.Node {
	at := p.next().At
	p.expect(";")
	return node(api.NExit, "", at)
}

func (p *parser) returned() api.Node {
	at := p.next().At
	return node(api.NReturn, "", at, p.exprUntil(";"))
}

func (p *parser) block() api.Node {
	at := p.token(0).At
	p.expect("{")
	return node(api.NBlock, "", at, p.until("}", p.statement)...)
}

// guardedBlock reads a block, and the arms for its exceptions, if they are there.
func (p *parser) guardedBlock() api.Node {
	block := p.block()
	if !p.take("exception") {
		return block
	}
	variable := p.nameIfThere()
	arms := p.arms(p.labels(p.text))
	return node(api.NExcept, variable, block.At, append([]api.Node{block}, arms...)...)
}

func (p *parser) ifElse() api.Node {
	at := p.next().At
	condition := p.condition()
	then := p.statement()
	return node(api.NIf, "", at, condition, then, p.behind("else", p.statement))
}

// condition reads an expression in parentheses.
func (p *parser) condition() api.Node {
	p.expect("(")
	n := p.expr()
	p.expect(")")
	return n
}

func (p *parser) while() api.Node {
	at := p.next().At
	p.expect("(")
	condition := p.exprUntil(")")
	return node(api.NWhile, "", at, condition, p.statement())
}

func (p *parser) doWhile() api.Node {
	at := p.next().At
	body := p.statement()
	p.expect("while")
	condition := p.condition()
	p.expect(";")
	return node(api.NDo, "", at, body, condition)
}

func (p *parser) forLoop() api.Node {
	at := p.next().At
	p.expect("(")
	first := p.exprUntil(";")
	condition := p.exprUntil(";")
	behind := p.exprUntil(")")
	return node(api.NFor, "", at, first, condition, behind, p.statement())
}
