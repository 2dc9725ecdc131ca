package parse_test

import (
	"math"
	"strings"

	"acheron/api"
)

// gen writes the tokens of random trees, and so knows the tree of its tokens.
type gen struct {
	dice
	l  []api.Token
	at int
}

// put adds a token, and returns where it is.
func (g *gen) put(t api.Token) int {
	g.at += 1 + g.below(3)
	t.At = g.at
	g.l = append(g.l, t)
	return g.at
}

// words adds keywords and signs, and returns where the first one is.
func (g *gen) words(l ...string) int {
	first := 0
	for i, s := range l {
		kind := api.TokSign
		if s[0] >= 'a' && s[0] <= 'z' {
			kind = api.TokKey
		}
		if at := g.put(api.Token{Kind: kind, Text: s}); i == 0 {
			first = at
		}
	}
	return first
}

// name adds a name as a node.
func (g *gen) name(kind int) api.Node {
	s := oneOf(&g.dice, "a", "b", "T", "P", "M", "int", "x y")
	return api.Node{Kind: kind, Text: s, At: g.put(api.Token{Kind: api.TokName, Text: s})}
}

func (g *gen) chance(n int) bool { return g.below(n) == 0 }

func (g *gen) expr(least, depth int) api.Node {
	level := 1 + g.below(16)
	if depth <= 0 {
		level = 16
	}
	if level < least || g.chance(9) {
		g.words("(")
		n := g.expr(1, depth-1)
		g.words(")")
		return n
	}
	switch {
	case level <= 12:
		return g.binary(level, depth-1)
	case level == 13:
		return g.prefix(depth - 1)
	case level == 14:
		return g.postfix(depth - 1)
	case level == 15:
		return g.elements(depth - 1)
	}
	return g.primary()
}

func (g *gen) binary(level, depth int) api.Node {
	kind, left, right := api.NBinary, level, level+1
	var sign string
	if level == 1 {
		kind, left, right = api.NAssign, 2, 1
		sign = oneOf(&g.dice, assignments()...)
	} else {
		sign = oneOf(&g.dice, levels()[level-2]...)
	}
	if sign == "::" {
		left, right = 5, 4
	}
	a := g.expr(left, depth)
	g.words(sign)
	b := g.expr(right, depth)
	return api.Node{Kind: kind, Text: sign, Kids: []api.Node{a, b}, At: a.At}
}

func (g *gen) prefix(depth int) api.Node {
	n := api.Node{Kind: oneOf(&g.dice, api.NUnary, api.NUnary, api.NUnary, api.NCast, api.NArrByte, api.NLoad, api.NNewRef, api.NNewArr, api.NNewChan)}
	switch n.Kind {
	case api.NUnary:
		word := oneOf(&g.dice, "+", "-", "!", "~", "<-", "hd", "tl", "len", "tagof", "++", "--")
		n.Text, n.At = word, g.words(word)
		if word == "++" || word == "--" {
			n.Text += "x"
		}
	case api.NCast:
		word := oneOf(&g.dice, "byte", "int", "big", "real", "string")
		n.At = g.words(word)
		n.Kids = []api.Node{{Kind: api.NTName, Text: word, At: n.At}}
	case api.NArrByte:
		n.At = g.words("array", "of", "byte")
	case api.NLoad:
		n.At = g.words("load")
		n.Text = g.name(0).Text
	case api.NNewRef:
		n.At = g.words("ref")
		n.Kids = []api.Node{g.suffix(api.NCall, depth)}
		return n
	case api.NNewArr:
		n.At = g.words("array", "[")
		n.Kids = []api.Node{g.expr(1, depth)}
		g.words("]", "of")
		n.Kids = append(n.Kids, g.anyType(depth))
		return n
	case api.NNewChan:
		n.At = g.words("chan", "of")
		n.Kids = []api.Node{g.anyType(depth)}
		return n
	}
	n.Kids = append(n.Kids, g.expr(13, depth))
	return n
}

func (g *gen) postfix(depth int) api.Node {
	return g.suffix(oneOf(&g.dice, api.NCall, api.NCall, api.NDot, api.NArrow, api.NIndex, api.NSlice, api.NUnary), depth)
}

func (g *gen) suffix(kind, depth int) api.Node {
	first := g.expr(14, depth)
	n := api.Node{Kind: kind, Kids: []api.Node{first}, At: first.At}
	switch kind {
	case api.NCall:
		g.words("(")
		n.Kids = append(n.Kids, g.list(g.below(3), depth)...)
		g.words(")")
	case api.NDot, api.NArrow:
		g.words(map[int]string{api.NDot: ".", api.NArrow: "->"}[kind])
		n.Text = g.name(0).Text
	case api.NIndex:
		g.words("[")
		n.Kids = append(n.Kids, g.expr(1, depth))
		g.words("]")
	case api.NSlice:
		g.words("[")
		n.Kids = append(n.Kids, g.perhaps(depth))
		g.words(":")
		n.Kids = append(n.Kids, g.perhaps(depth))
		g.words("]")
	case api.NUnary:
		sign := oneOf(&g.dice, "++", "--")
		g.words(sign)
		n.Text = "x" + sign
	}
	return n
}

// list writes expressions with commas.
func (g *gen) list(n, depth int) []api.Node {
	var l []api.Node
	for i := range n {
		if i > 0 {
			g.words(",")
		}
		l = append(l, g.expr(1, depth))
	}
	return l
}

// perhaps writes an expression, or nothing.
func (g *gen) perhaps(depth int) api.Node {
	if g.chance(2) {
		return api.Node{}
	}
	return g.expr(1, depth)
}

func (g *gen) elements(depth int) api.Node {
	n := api.Node{Kind: oneOf(&g.dice, api.NTuple, api.NArrOf, api.NListOf)}
	switch n.Kind {
	case api.NTuple:
		n.At = g.words("(")
		n.Kids = g.list(2+g.below(2), depth)
		g.words(")")
		return n
	case api.NArrOf:
		n.At = g.words("array", "[", "]", "of", "{")
	case api.NListOf:
		n.At = g.words("list", "of", "{")
	}
	n.Kids = g.list(g.below(3), depth)
	g.words("}")
	return n
}

func (g *gen) primary() api.Node {
	number := int64(g.below(9)) - 2
	switch g.below(7) {
	case 0:
		return api.Node{Kind: api.NInt, Num: number, At: g.put(api.Token{Kind: oneOf(&g.dice, api.TokInt, api.TokChar), Num: number})}
	case 1:
		bits := int64(math.Float64bits(float64(number)))
		return api.Node{Kind: api.NReal, Num: bits, At: g.put(api.Token{Kind: api.TokReal, Num: bits})}
	case 2:
		return g.text()
	case 3:
		return api.Node{Kind: api.NNil, At: g.words("nil")}
	case 4:
		return api.Node{Kind: api.NName, Text: "iota", At: g.words("iota")}
	}
	return g.name(api.NName)
}

func (g *gen) text() api.Node {
	s := oneOf(&g.dice, "", "a", "b*", "(")
	return api.Node{Kind: api.NString, Text: s, At: g.put(api.Token{Kind: api.TokString, Text: s})}
}

func (g *gen) anyType(depth int) api.Node {
	n := api.Node{Kind: oneOf(&g.dice, api.NTName, api.NTRef, api.NTArray, api.NTList, api.NTChan, api.NTTuple)}
	if depth <= 0 {
		n.Kind = api.NTName
	}
	switch n.Kind {
	case api.NTName:
		if g.chance(2) {
			return g.typeName()
		}
		word := oneOf(&g.dice, "byte", "int", "big", "real", "string")
		return api.Node{Kind: api.NTName, Text: word, At: g.words(word)}
	case api.NTRef:
		n.At = g.words("ref")
		n.Kids = []api.Node{g.typeName()}
	case api.NTTuple:
		n.At = g.words("(")
		n.Kids = []api.Node{g.anyType(depth - 1)}
		for range 1 + g.below(2) {
			g.words(",")
			n.Kids = append(n.Kids, g.anyType(depth-1))
		}
		g.words(")")
	default:
		n.At = g.words(map[int]string{api.NTArray: "array", api.NTList: "list", api.NTChan: "chan"}[n.Kind], "of")
		n.Kids = []api.Node{g.anyType(depth - 1)}
	}
	return n
}

func (g *gen) typeName() api.Node {
	n := g.name(api.NTName)
	for _, sign := range []string{"->", "."} {
		if g.chance(3) {
			g.words(sign)
			n.Text += sign + g.name(0).Text
		}
	}
	return n
}

// names writes names, fewer than a number and at least one, and ":".
func (g *gen) names(kind, most int) []api.Node {
	l := []api.Node{g.name(kind)}
	for range g.below(most) {
		g.words(",")
		l = append(l, g.name(kind))
	}
	g.words(":")
	return l
}

func (g *gen) variable(depth int) api.Node {
	l := g.names(api.NName, 3)
	l = append(l, g.anyType(depth), api.Node{})
	if g.chance(2) {
		g.words("=")
		l[len(l)-1] = g.expr(1, depth)
	}
	g.words(";")
	return api.Node{Kind: api.NVar, Kids: l, At: l[0].At}
}

func (g *gen) field(depth int) api.Node {
	l := g.names(api.NName, 3)
	l = append(l, g.anyType(depth), api.Node{})
	g.words(";")
	return api.Node{Kind: api.NVar, Kids: l, At: l[0].At}
}

func (g *gen) constant(depth int) api.Node {
	l := g.names(api.NName, 3)
	g.words("con")
	l = append(l, g.expr(1, depth))
	g.words(";")
	return api.Node{Kind: api.NCon, Kids: l, At: l[0].At}
}

func (g *gen) program(depth int) api.Node {
	n := api.Node{Kind: api.NProgram, At: g.words("implement")}
	n.Text = g.name(0).Text
	g.words(";")
	for range g.below(4) {
		n.Kids = append(n.Kids, g.declaration(depth))
	}
	return n
}

func (g *gen) declaration(depth int) api.Node {
	switch g.below(8) {
	case 0:
		return g.common(depth)
	case 1:
		n := g.name(api.NModule)
		g.words(":", "module", "{")
		for range g.below(4) {
			n.Kids = append(n.Kids, g.member(depth))
		}
		g.words("}", ";")
		return n
	case 2:
		return g.variable(depth)
	case 3:
		name := g.name(api.NName)
		g.words(":=")
		n := api.Node{Kind: api.NVar, Kids: []api.Node{name, {}, g.expr(1, depth)}, At: name.At}
		g.words(";")
		return n
	}
	name := g.name(0)
	if g.chance(3) {
		g.words(".")
		name.Text += "." + g.name(0).Text
	}
	kind := g.generic(name, depth)
	return api.Node{Kind: api.NFn, Text: name.Text, Kids: []api.Node{kind, g.block(depth)}, At: name.At}
}

func (g *gen) common(depth int) api.Node {
	switch g.below(3) {
	case 0:
		return g.constant(depth)
	case 1:
		n := g.name(api.NTypeDef)
		g.words(":", "type")
		n.Kids = []api.Node{g.anyType(depth)}
		g.words(";")
		return n
	}
	n := g.name(api.NAdt)
	g.words(":", "adt", "{")
	for range g.below(4) {
		if g.chance(3) {
			n.Kids = append(n.Kids, g.method(depth))
		} else {
			n.Kids = append(n.Kids, g.field(depth))
		}
	}
	if g.chance(2) {
		g.words("pick", "{")
		for range g.below(3) {
			arm := g.name(api.NPickArm)
			g.words("=>")
			for range g.below(3) {
				arm.Kids = append(arm.Kids, g.field(depth))
			}
			n.Kids = append(n.Kids, arm)
		}
		g.words("}")
	}
	g.words("}", ";")
	return n
}

func (g *gen) member(depth int) api.Node {
	if g.chance(2) {
		return g.common(depth)
	}
	name := g.name(0)
	g.words(":", "fn")
	n := g.generic(name, depth)
	g.words(";")
	return n
}

func (g *gen) method(depth int) api.Node {
	n := g.name(api.NFnSig)
	g.words(":", "fn")
	n.Kids = g.signature(depth)
	g.words(";")
	return n
}

func (g *gen) signature(depth int) []api.Node {
	var l []api.Node
	g.words("(")
	for i := range g.below(3) {
		if i > 0 {
			g.words(",")
		}
		l = append(l, g.parameters(depth)...)
	}
	g.words(")")
	if g.chance(2) {
		return append(l, api.Node{})
	}
	g.words(":")
	return append(l, g.anyType(depth))
}

func (g *gen) parameters(depth int) []api.Node {
	l := g.names(api.NParam, 3)
	self := int64(0)
	if g.chance(3) {
		self = 1
		g.words("self")
	}
	kind := g.anyType(depth)
	for i := range l {
		l[i].Num, l[i].Kids = self, []api.Node{kind}
	}
	return l
}

// generic writes a function's type behind its name. The names of its type variables differ.
func (g *gen) generic(name api.Node, depth int) api.Node {
	var variables []api.Node
	if g.chance(3) {
		for i := range 1 + g.below(3) {
			g.words([]string{"[", ",", ","}[i])
			s := "V" + string(rune('0'+i))
			variables = append(variables, api.Node{Kind: api.NTypeVar, Text: s, At: g.put(api.Token{Kind: api.TokName, Text: s})})
		}
		g.words("]")
	}
	kids := g.signature(depth)
	if g.chance(2) {
		g.words("for", "{")
		for range g.below(4) * min(1, len(variables)) {
			v := &variables[g.below(len(variables))]
			g.put(api.Token{Kind: api.TokName, Text: v.Text})
			g.words("=>")
			for range g.below(3) {
				v.Kids = append(v.Kids, g.method(depth))
			}
		}
		g.words("}")
	}
	return api.Node{Kind: api.NFnSig, Text: name.Text, Kids: append(variables, kids...), At: name.At}
}

func (g *gen) block(depth int) api.Node {
	n := api.Node{Kind: api.NBlock, At: g.words("{")}
	n.Kids = g.stmts(depth - 1)
	g.words("}")
	return n
}

func (g *gen) stmts(depth int) []api.Node {
	var l []api.Node
	for range g.below(4) {
		l = append(l, g.stmt(depth))
	}
	return l
}

func (g *gen) stmt(depth int) api.Node {
	if depth > 0 && g.chance(2) {
		return g.compound(depth)
	}
	switch g.below(9) {
	case 0:
		return api.Node{Kind: api.NEmpty, At: g.words(";")}
	case 1:
		return g.variable(depth)
	case 2:
		return g.constant(depth)
	case 3:
		at := g.words("exit")
		g.words(";")
		return api.Node{Kind: api.NExit, At: at}
	case 4:
		n := api.Node{Kind: api.NReturn, At: g.words("return")}
		n.Kids = []api.Node{g.perhaps(depth)}
		g.words(";")
		return n
	case 5:
		word := oneOf(&g.dice, "break", "continue")
		n := api.Node{Kind: map[string]int{"break": api.NBreak, "continue": api.NContinue}[word], At: g.words(word)}
		if g.chance(2) {
			n.Text = g.name(0).Text
		}
		g.words(";")
		return n
	case 6:
		word := oneOf(&g.dice, "spawn", "raise")
		n := api.Node{Kind: map[string]int{"spawn": api.NSpawn, "raise": api.NRaise}[word], At: g.words(word)}
		n.Kids = []api.Node{g.expr(1, depth)}
		g.words(";")
		return n
	}
	first := len(g.l)
	value := g.expr(1, depth)
	g.words(";")
	return api.Node{Kind: api.NExpr, Kids: []api.Node{value}, At: g.l[first].At}
}

func (g *gen) compound(depth int) api.Node {
	switch g.below(6) {
	case 0:
		return g.guarded(depth)
	case 1:
		n := api.Node{Kind: api.NIf, At: g.words("if", "(")}
		condition := g.expr(1, depth)
		g.words(")")
		n.Kids = []api.Node{condition, {}, {}}
		if g.chance(2) {
			n.Kids[1] = g.stmt(depth - 1)
			return n
		}
		n.Kids[1] = g.closed(depth)
		g.words("else")
		n.Kids[2] = g.stmt(depth - 1)
		return n
	case 2:
		n := g.name(api.NLabel)
		g.words(":")
		if g.chance(3) {
			n.Kids = []api.Node{g.guarded(depth)}
		} else {
			n.Kids = []api.Node{g.loop(depth)}
		}
		return n
	}
	return g.loop(depth)
}

// closed writes a statement to which no "else" may belong.
func (g *gen) closed(depth int) api.Node {
	if g.chance(2) {
		return g.guarded(depth)
	}
	return g.variable(depth)
}

func (g *gen) guarded(depth int) api.Node {
	block := g.block(depth)
	if g.chance(2) {
		return block
	}
	n := api.Node{Kind: api.NExcept, At: block.At}
	g.words("exception")
	if g.chance(2) {
		n.Text = g.name(0).Text
	}
	n.Kids = append([]api.Node{block}, g.arms(depth, 3, g.text)...)
	return n
}

func (g *gen) loop(depth int) api.Node {
	word := oneOf(&g.dice, "while", "do", "for", "case", "alt", "pick")
	n := api.Node{At: g.words(word)}
	switch word {
	case "while":
		n.Kind = api.NWhile
		g.words("(")
		n.Kids = []api.Node{g.perhaps(depth)}
		g.words(")")
		n.Kids = append(n.Kids, g.stmt(depth-1))
	case "do":
		n.Kind = api.NDo
		n.Kids = []api.Node{g.stmt(depth - 1)}
		g.words("while", "(")
		n.Kids = append(n.Kids, g.expr(1, depth))
		g.words(")", ";")
	case "for":
		n.Kind = api.NFor
		g.words("(")
		for _, sign := range []string{";", ";", ")"} {
			n.Kids = append(n.Kids, g.perhaps(depth))
			g.words(sign)
		}
		n.Kids = append(n.Kids, g.stmt(depth-1))
	case "case":
		n.Kind = api.NCase
		n.Kids = []api.Node{g.expr(1, depth)}
		n.Kids = append(n.Kids, g.arms(depth, 3, func() api.Node { return g.numbers(depth) })...)
	case "alt":
		n.Kind = api.NAlt
		n.Kids = g.arms(depth, 1, func() api.Node { return g.expr(1, depth) })
	case "pick":
		n.Kind = api.NPick
		n.Text = g.name(0).Text
		g.words(":=")
		n.Kids = []api.Node{g.expr(1, depth)}
		n.Kids = append(n.Kids, g.arms(depth, 3, func() api.Node { return g.name(api.NName) })...)
	}
	return n
}

func (g *gen) numbers(depth int) api.Node {
	low := g.expr(1, depth)
	if g.chance(2) {
		return low
	}
	g.words("to")
	return api.Node{Kind: api.NRange, Kids: []api.Node{low, g.expr(1, depth)}, At: low.At}
}

// arms writes arms with at most so many labels each.
func (g *gen) arms(depth, most int, label func() api.Node) []api.Node {
	var arms []api.Node
	var blocks []int // the tokens with which the blocks of the arms begin
	g.words("{")
	for range g.below(4) {
		first := len(g.l)
		var kids []api.Node
		for i := range 1 + g.below(most) {
			if i > 0 {
				g.words("or")
			}
			if g.chance(5) {
				kids = append(kids, api.Node{Kind: api.NStar, At: g.words("*")})
			} else {
				kids = append(kids, label())
			}
		}
		g.words("=>")
		blocks = append(blocks, len(g.l))
		kids = append(kids, api.Node{Kind: api.NBlock, Kids: g.stmts(depth - 1)})
		arms = append(arms, api.Node{Kind: api.NArm, Kids: kids, At: g.l[first].At})
	}
	g.words("}")
	for i, token := range blocks {
		kids := arms[i].Kids
		kids[len(kids)-1].At = g.l[token].At
	}
	return arms
}

// words returns the texts of tokens, which tell what they are.
func words(l []api.Token) string {
	var s []string
	for _, t := range l {
		switch t.Kind {
		case api.TokInt, api.TokReal, api.TokChar:
			s = append(s, "1")
		case api.TokString:
			s = append(s, `"`+t.Text+`"`)
		default:
			s = append(s, t.Text)
		}
	}
	return strings.Join(s, " ")
}
