package parse

import "acheron/api"

var basicTypes = [...]string{"byte", "int", "big", "real", "string"}

// maker is a word with which the type of some elements begins, and the kind of this type.
type maker struct {
	word string
	kind int
}

var makers = [...]maker{{"array", api.NTArray}, {"list", api.NTList}, {"chan", api.NTChan}}

func (p *parser) fillTypes() {
	p.types = map[string]func() api.Node{"ref": p.refType, "(": p.tupleType}
	for _, word := range basicTypes {
		p.types[word] = p.basicType
	}
	for _, m := range makers {
		p.types[m.word] = func() api.Node { return p.elementType(m.kind) }
	}
}

// anyType reads a type.
func (p *parser) anyType() api.Node {
	if read := p.types[p.word(0)]; read != nil {
		return read()
	}
	return p.typeName()
}

func (p *parser) basicType() api.Node { return p.leaf(api.NTName) }

func (p *parser) elementType(kind int) api.Node {
	at := p.next().At
	p.expect("of")
	return node(kind, "", at, p.anyType())
}

func (p *parser) refType() api.Node {
	at := p.next().At
	return node(api.NTRef, "", at, p.typeName())
}

func (p *parser) tupleType() api.Node {
	at := p.next().At
	first := p.anyType()
	p.expect(",")
	kids := append([]api.Node{first}, list(p, ",", p.anyType)...)
	p.expect(")")
	return node(api.NTTuple, "", at, kids...)
}

// typeName reads a name of a type that is declared.
func (p *parser) typeName() api.Node {
	t := p.readName()
	text := t.Text + p.part("->") + p.part(".")
	return node(api.NTName, text, t.At)
}

// part reads a sign and a name, if the sign is there, and returns their text.
func (p *parser) part(sign string) string {
	if !p.take(sign) {
		return ""
	}
	return sign + p.readName().Text
}
