package parse

import (
	"slices"

	"acheron/api"
)

func (p *parser) program() api.Node {
	at := p.token(0).At
	p.expect("implement")
	name := p.readName().Text
	p.expect(";")
	var l []api.Node
	for p.token(0).Kind != api.TokEnd {
		l = append(l, p.declaration())
	}
	return node(api.NProgram, name, at, l...)
}

func (p *parser) declaration() api.Node {
	if !p.isName() {
		panic(p.fault(api.ErrSyntax))
	}
	switch p.word(1) {
	case ":=":
		return p.definition()
	case ":", ",":
		return p.named()
	}
	return p.function()
}

// definition reads a variable whose type is that of its value.
func (p *parser) definition() api.Node {
	name := p.nameNode()
	p.expect(":=")
	value := p.expr()
	p.expect(";")
	return node(api.NVar, "", name.At, name, api.Node{}, value)
}

// named reads a declaration that begins with names and ":".
func (p *parser) named() api.Node {
	names := p.names()
	if read := p.common(names); read != nil {
		return read(names)
	}
	if len(names) == 1 && p.is("module") {
		return p.module(names[0])
	}
	return p.variable(names)
}

// names reads names, and the ":" behind them.
func (p *parser) names() []api.Node {
	l := list(p, ",", p.nameNode)
	p.expect(":")
	return l
}

// common returns what reads a declaration behind its names that may stand in a module, too; nil, if none follows.
func (p *parser) common(names []api.Node) func(names []api.Node) api.Node {
	switch {
	case p.is("con"):
		return p.constant
	case len(names) == 1 && p.is("type"):
		return p.typeDef
	case len(names) == 1 && p.is("adt"):
		return p.adt
	}
	return nil
}

func (p *parser) constant(names []api.Node) api.Node {
	p.expect("con")
	value := p.expr()
	p.expect(";")
	return node(api.NCon, "", names[0].At, append(names, value)...)
}

func (p *parser) typeDef(names []api.Node) api.Node {
	p.expect("type")
	kind := p.anyType()
	p.expect(";")
	return node(api.NTypeDef, names[0].Text, names[0].At, kind)
}

func (p *parser) variable(names []api.Node) api.Node {
	kind := p.anyType()
	value := p.behind("=", p.expr)
	p.expect(";")
	return node(api.NVar, "", names[0].At, append(names, kind, value)...)
}

func (p *parser) adt(names []api.Node) api.Node {
	p.expect("adt", "{")
	var l []api.Node
	for !p.is("pick", "}") {
		l = append(l, p.adtMember())
	}
	if p.take("pick") {
		p.expect("{")
		l = append(l, p.until("}", p.pickPart)...)
	}
	p.expect("}", ";")
	return node(api.NAdt, names[0].Text, names[0].At, l...)
}

func (p *parser) adtMember() api.Node {
	names := p.names()
	if len(names) == 1 && p.is("fn") {
		return p.method(names[0])
	}
	return p.field(names)
}

func (p *parser) field(names []api.Node) api.Node {
	kind := p.anyType()
	p.expect(";")
	return node(api.NVar, "", names[0].At, append(names, kind, api.Node{})...)
}

// method reads a function without type variables behind its name and ":".
func (p *parser) method(name api.Node) api.Node {
	p.expect("fn")
	kids := p.signature()
	p.expect(";")
	return node(api.NFnSig, name.Text, name.At, kids...)
}

// pickPart reads an arm of an adt.
func (p *parser) pickPart() api.Node {
	name := p.readName()
	p.expect("=>")
	var l []api.Node
	for p.isName() && p.word(1) != "=>" {
		l = append(l, p.field(p.names()))
	}
	return node(api.NPickArm, name.Text, name.At, l...)
}

func (p *parser) module(name api.Node) api.Node {
	p.expect("module", "{")
	l := p.until("}", p.member)
	p.expect(";")
	return node(api.NModule, name.Text, name.At, l...)
}

// member reads a member of a module.
func (p *parser) member() api.Node {
	names := p.names()
	if read := p.common(names); read != nil {
		return read(names)
	}
	if len(names) > 1 {
		panic(p.fault(api.ErrSyntax))
	}
	p.expect("fn")
	n := p.generic(names[0].Text, names[0].At)
	p.expect(";")
	return n
}

func (p *parser) function() api.Node {
	t := p.readName()
	text := t.Text + p.part(".")
	kind := p.generic(text, t.At)
	return node(api.NFn, text, t.At, kind, p.block())
}

// generic reads a function's type behind its name, perhaps with type variables and constraints.
func (p *parser) generic(text string, at int) api.Node {
	var kids []api.Node
	if p.take("[") {
		kids = list(p, ",", p.typeVar)
		p.expect("]")
	}
	variables := len(kids)
	kids = append(kids, p.signature()...)
	if p.take("for") {
		p.constraints(kids[:variables])
	}
	return node(api.NFnSig, text, at, kids...)
}

func (p *parser) typeVar() api.Node {
	t := p.readName()
	return node(api.NTypeVar, t.Text, t.At)
}

// signature reads parameters and the result.
func (p *parser) signature() []api.Node {
	p.expect("(")
	l := slices.Concat(listUntil(p, ")", p.parameters)...)
	return append(l, p.behind(":", p.anyType))
}

// parameters reads names with a type, of which each one is a parameter.
func (p *parser) parameters() []api.Node {
	l := p.names()
	self := p.take("self")
	kind := p.anyType()
	for i := range l {
		l[i].Kind = api.NParam
		l[i].Kids = []api.Node{kind}
		if self {
			l[i].Num = 1
		}
	}
	return l
}

// constraints reads the methods of type variables, which become their kids.
func (p *parser) constraints(variables []api.Node) {
	p.expect("{")
	for !p.take("}") {
		v := &variables[p.constrained(variables)]
		p.expect("=>")
		for p.isName() && p.word(1) != "=>" {
			name := p.nameNode()
			p.expect(":")
			v.Kids = append(v.Kids, p.method(name))
		}
	}
}

// constrained reads the name of a type variable, and returns its index.
func (p *parser) constrained(variables []api.Node) int {
	text := p.token(0).Text
	i := slices.IndexFunc(variables, func(v api.Node) bool { return v.Text == text })
	if p.isName() && i < 0 {
		panic(p.fault(api.ErrName))
	}
	p.readName()
	return i
}
