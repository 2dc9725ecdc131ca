package parse

import "acheron/api"

func (p *parser) caseOf() api.Node {
	at := p.next().At
	value := p.expr()
	return node(api.NCase, "", at, append([]api.Node{value}, p.arms(p.labels(p.numbers))...)...)
}

func (p *parser) alt() api.Node {
	at := p.next().At
	return node(api.NAlt, "", at, p.arms(func() []api.Node { return []api.Node{p.orStar(p.expr)} })...)
}

func (p *parser) pick() api.Node {
	at := p.next().At
	variable := p.readName().Text
	p.expect(":=")
	value := p.expr()
	return node(api.NPick, variable, at, append([]api.Node{value}, p.arms(p.labels(p.nameNode))...)...)
}

// numbers reads an expression, or the two ends of a range.
func (p *parser) numbers() api.Node {
	low := p.expr()
	if !p.take("to") {
		return low
	}
	return node(api.NRange, "", low.At, low, p.expr())
}

// text reads a string.
func (p *parser) text() api.Node {
	t := p.readKind(api.TokString)
	return node(api.NString, t.Text, t.At)
}

// orStar reads a label, or "*".
func (p *parser) orStar(label func() api.Node) api.Node {
	if p.is("*") {
		return node(api.NStar, "", p.next().At)
	}
	return label()
}

// labels returns what reads the labels of an arm of which a function reads one.
func (p *parser) labels(label func() api.Node) func() []api.Node {
	return func() []api.Node {
		return list(p, "or", func() api.Node { return p.orStar(label) })
	}
}

// arms reads arms in braces, whose labels a function reads.
func (p *parser) arms(labels func() []api.Node) []api.Node {
	p.expect("{")
	return p.until("}", func() api.Node { return p.arm(labels) })
}

func (p *parser) arm(labels func() []api.Node) api.Node {
	at := p.token(0).At
	kids := labels()
	p.expect("=>")
	block := node(api.NBlock, "", p.token(0).At)
	for !p.is("}") && !p.armFollows(labels) {
		block.Kids = append(block.Kids, p.statement())
	}
	return node(api.NArm, "", at, append(kids, block)...)
}

// armFollows reports whether labels and "=>" follow, and reads nothing: what is neither is a statement, with its faults.
func (p *parser) armFollows(labels func() []api.Node) (follows bool) {
	at, wrongRef := p.at, p.wrongRef
	defer func() {
		if recover() != nil {
			follows = false
		}
		p.at, p.wrongRef = at, wrongRef
	}()
	labels()
	return p.is("=>")
}
