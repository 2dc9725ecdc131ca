package format_test

import (
	"math"

	"acheron/api"
)

// gen makes random trees that have texts.
type gen struct{ dice }

func (g *gen) name() string { return oneOf(&g.dice, "a", "b", "T", "P", "_x1", "intx", "e5") }

// some makes at least so many trees, and up to two more.
func (g *gen) some(least int, one func() api.Node) []api.Node {
	var l []api.Node
	for range least + g.below(3) {
		l = append(l, one())
	}
	return l
}

// either makes a tree, or none.
func (g *gen) either(one func() api.Node) api.Node {
	if g.chance(3) {
		return api.Node{}
	}
	return one()
}

func (g *gen) nameNode() api.Node { return node(api.NName, g.name()) }

func (g *gen) str() api.Node {
	return node(api.NString, oneOf(&g.dice, "", "a b", "it's", "\"\\\n\x01", "é\u20ac", ")", "*"))
}

// exprs returns what makes expressions.
func (g *gen) exprs(depth int) func() api.Node { return func() api.Node { return g.expr(depth) } }

func (g *gen) types(depth int) func() api.Node { return func() api.Node { return g.kind(depth) } }

func (g *gen) primary() api.Node {
	switch g.below(6) {
	case 0:
		return api.Node{Kind: api.NInt, Num: oneOf(&g.dice, 0, 7, 65536, int64(math.MaxInt64))}
	case 1:
		x := oneOf(&g.dice, 0, 1.5, 1e300, 5e-324, 100)
		return api.Node{Kind: api.NReal, Num: int64(math.Float64bits(x))}
	case 2:
		return g.str()
	case 3:
		return oneOf(&g.dice, node(api.NNil, ""), node(api.NName, "iota"))
	}
	return g.nameNode()
}

func (g *gen) expr(depth int) api.Node {
	if depth <= 0 || g.chance(6) {
		return g.primary()
	}
	depth--
	x, more := g.expr(depth), g.exprs(depth)
	switch g.below(19) {
	case 0, 1:
		return node(api.NUnary, oneOf(&g.dice, "+", "-", "!", "~", "hd", "tl", "len", "tagof", "<-", "++x", "--x"), x)
	case 2, 3:
		return node(api.NUnary, oneOf(&g.dice, "x++", "x--"), x)
	case 4, 5, 6, 7:
		sign := oneOf(&g.dice, "+", "-", "*", "/", "%", "&", "|", "^", "<<", ">>", "<", "<=", ">", ">=", "==", "!=", "&&", "||", "::", "::")
		return node(api.NBinary, sign, x, more())
	case 8:
		return node(api.NAssign, oneOf(&g.dice, "=", ":=", "<-=", "+=", "-=", "*=", "/=", "%=", "&=", "|=", "^=", "<<=", ">>="), x, more())
	case 9:
		return node(api.NTuple, "", g.some(2, more)...)
	case 10:
		return node(api.NDot, g.name(), x)
	case 11:
		return node(api.NArrow, g.name(), x)
	case 12:
		return node(api.NIndex, "", x, more())
	case 13:
		return node(api.NSlice, "", x, g.either(more), g.either(more))
	case 14:
		return node(oneOf(&g.dice, api.NArrOf, api.NListOf), "", g.some(0, more)...)
	case 15, 16:
		return g.made(x, depth)
	}
	return g.call(depth)
}

func (g *gen) call(depth int) api.Node { return node(api.NCall, "", g.some(1, g.exprs(depth))...) }

// made makes an expression that begins with a word.
func (g *gen) made(x api.Node, depth int) api.Node {
	switch g.below(6) {
	case 0:
		return node(api.NNewArr, "", x, g.kind(depth))
	case 1:
		return node(api.NNewChan, "", g.kind(depth))
	case 2:
		return node(api.NNewRef, "", g.call(depth))
	case 3:
		return node(api.NLoad, g.name(), x)
	case 4:
		return node(api.NArrByte, "", x)
	}
	return node(api.NCast, "", g.basic(), x)
}

func (g *gen) basic() api.Node {
	return node(api.NTName, oneOf(&g.dice, "byte", "int", "big", "real", "string"))
}

func (g *gen) declared() api.Node {
	return node(api.NTName, g.name()+oneOf(&g.dice, "", "", "->"+g.name())+oneOf(&g.dice, "", "", "."+g.name()))
}

func (g *gen) kind(depth int) api.Node {
	if depth <= 0 || g.chance(3) {
		return oneOf(&g.dice, g.basic(), g.declared())
	}
	switch kind := oneOf(&g.dice, api.NTArray, api.NTList, api.NTChan, api.NTRef, api.NTTuple); kind {
	case api.NTRef:
		return node(kind, "", g.declared())
	case api.NTTuple:
		return node(kind, "", g.some(2, g.types(depth-1))...)
	default:
		return node(kind, "", g.kind(depth-1))
	}
}

func (g *gen) variable(depth int, value api.Node) api.Node {
	return node(api.NVar, "", append(g.some(1, g.nameNode), g.kind(depth), value)...)
}

func (g *gen) field() api.Node { return g.variable(2, api.Node{}) }

func (g *gen) constant(depth int) api.Node {
	return node(api.NCon, "", append(g.some(1, g.nameNode), g.expr(depth))...)
}

func (g *gen) program(depth int) api.Node {
	return node(api.NProgram, g.name(), g.some(0, func() api.Node { return g.declaration(depth) })...)
}

func (g *gen) declaration(depth int) api.Node {
	switch g.below(8) {
	case 0:
		return g.common(depth)
	case 1:
		return node(api.NModule, g.name(), g.some(0, func() api.Node {
			return oneOf(&g.dice, g.common(depth), g.generic(g.name(), depth))
		})...)
	case 2:
		return g.variable(depth, g.either(g.exprs(depth)))
	case 3:
		return node(api.NVar, "", g.nameNode(), api.Node{}, g.expr(depth))
	}
	name := oneOf(&g.dice, g.name(), g.name()+"."+g.name())
	return node(api.NFn, name, g.generic(name, depth), g.block(depth))
}

func (g *gen) common(depth int) api.Node {
	switch g.below(3) {
	case 0:
		return g.constant(depth)
	case 1:
		return node(api.NTypeDef, g.name(), g.kind(depth))
	}
	members := g.some(0, func() api.Node { return oneOf(&g.dice, g.field(), g.method(depth)) })
	if g.chance(2) {
		members = append(members, g.some(1, func() api.Node { return node(api.NPickArm, g.name(), g.some(0, g.field)...) })...)
	}
	return node(api.NAdt, g.name(), members...)
}

func (g *gen) method(depth int) api.Node {
	params := g.some(0, func() api.Node {
		return api.Node{Kind: api.NParam, Text: g.name(), Num: int64(g.below(2)), Kids: []api.Node{g.kind(depth)}}
	})
	return node(api.NFnSig, g.name(), append(params, g.either(g.types(depth)))...)
}

// generic makes the type of a function. Of two type variables with one name the second one has no constraints.
func (g *gen) generic(name string, depth int) api.Node {
	n := g.method(depth)
	n.Text = name
	if g.chance(2) {
		return n
	}
	known := map[string]bool{}
	return node(n.Kind, n.Text, append(g.some(1, func() api.Node {
		v := node(api.NTypeVar, g.name())
		if !known[v.Text] {
			v.Kids = g.some(0, func() api.Node { return g.method(depth) })
		}
		known[v.Text] = true
		return v
	}), n.Kids...)...)
}

func (g *gen) block(depth int) api.Node { return node(api.NBlock, "", g.stmts(depth)...) }

func (g *gen) stmts(depth int) []api.Node {
	return g.some(0, func() api.Node { return g.stmt(depth - 1) })
}

func (g *gen) stmt(depth int) api.Node {
	if depth > 0 && g.chance(2) {
		return g.compound(depth)
	}
	switch g.below(9) {
	case 0:
		return node(oneOf(&g.dice, api.NEmpty, api.NExit), "")
	case 1:
		return g.variable(depth, g.either(g.exprs(depth)))
	case 2:
		return g.constant(depth)
	case 3:
		return node(api.NReturn, "", g.either(g.exprs(depth)))
	case 4:
		return node(oneOf(&g.dice, api.NBreak, api.NContinue), oneOf(&g.dice, "", g.name()))
	case 5:
		return node(oneOf(&g.dice, api.NSpawn, api.NRaise), "", g.expr(depth))
	}
	return node(api.NExpr, "", g.expr(depth))
}

func (g *gen) compound(depth int) api.Node {
	switch g.below(5) {
	case 0:
		return g.guarded(depth)
	case 1:
		then, otherwise := g.stmt(depth-1), g.either(func() api.Node { return g.stmt(depth - 1) })
		if otherwise.Kind != api.NNone && takesElse(then) {
			then = node(api.NBlock, "", then)
		}
		return node(api.NIf, "", g.expr(depth), then, otherwise)
	case 2:
		return node(api.NLabel, g.name(), oneOf(&g.dice, g.guarded(depth), g.loop(depth)))
	}
	return g.loop(depth)
}

// takesElse reports whether an "else" behind a statement belongs to it.
func takesElse(n api.Node) bool {
	switch n.Kind {
	case api.NIf:
		return n.Kids[2].Kind == api.NNone || takesElse(n.Kids[2])
	case api.NWhile, api.NFor, api.NLabel:
		return takesElse(n.Kids[len(n.Kids)-1])
	}
	return false
}

func (g *gen) guarded(depth int) api.Node {
	if g.chance(2) {
		return g.block(depth)
	}
	return node(api.NExcept, oneOf(&g.dice, "", g.name()), append([]api.Node{g.block(depth)}, g.arms(depth, 3, g.str)...)...)
}

func (g *gen) loop(depth int) api.Node {
	x, body := g.exprs(depth-1), g.stmt(depth-1)
	switch g.below(6) {
	case 0:
		return node(api.NWhile, "", g.either(x), body)
	case 1:
		return node(api.NDo, "", body, x())
	case 2:
		return node(api.NFor, "", g.either(x), g.either(x), g.either(x), body)
	case 3:
		return node(api.NAlt, "", g.arms(depth, 1, x)...)
	case 4:
		return node(api.NPick, g.name(), append([]api.Node{x()}, g.arms(depth, 3, g.nameNode)...)...)
	}
	return node(api.NCase, "", append([]api.Node{x()}, g.arms(depth, 3, func() api.Node {
		return oneOf(&g.dice, x(), node(api.NRange, "", x(), x()))
	})...)...)
}

// arms makes arms with at most so many labels each.
func (g *gen) arms(depth, most int, label func() api.Node) []api.Node {
	return g.some(0, func() api.Node {
		var kids []api.Node
		for range 1 + g.below(most) {
			kids = append(kids, oneOf(&g.dice, label(), label(), node(api.NStar, "")))
		}
		return node(api.NArm, "", append(kids, g.block(depth))...)
	})
}
