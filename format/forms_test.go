package format_test

import (
	"math"
	"strings"
	"testing"

	"acheron/api"
	"acheron/format"
	"acheron/parse"
)

// none is what is missing.
var none api.Node

func name(text string) api.Node { return node(api.NName, text) }

func number(kind int, num int64) api.Node { return api.Node{Kind: kind, Num: num} }

// hasNoExpr fails unless trees are none of an expression's text.
func hasNoExpr(t *testing.T, l ...api.Node) {
	t.Helper()
	for _, n := range l {
		if s, e := format.Expr(n); s != "" || e != api.ErrForm {
			t.Errorf("Expr of %s = %q, %v", show(n), s, e)
		}
		hasNoStmt(t, node(api.NExpr, "", n))
	}
}

// hasNoStmt fails unless trees are none of a statement's text.
func hasNoStmt(t *testing.T, l ...api.Node) {
	t.Helper()
	for _, n := range l {
		hasNoDecl(t, node(api.NFn, "f", node(api.NFnSig, "f", none), node(api.NBlock, "", n)))
	}
}

// hasNoDecl fails unless trees are none of a declaration's text.
func hasNoDecl(t *testing.T, l ...api.Node) {
	t.Helper()
	for _, n := range l {
		hasNoProgram(t, node(api.NProgram, "M", n), n)
	}
}

func hasNoProgram(t *testing.T, l ...api.Node) {
	t.Helper()
	for _, n := range l {
		if s, e := format.Program(n); s != "" || e != api.ErrForm {
			t.Errorf("Program of %s = %q, %v", show(n), s, e)
		}
	}
}

// P7.1: trees that no expression's text has.
func TestNoExprs(t *testing.T) {
	a, b, kind := name("a"), name("b"), node(api.NTName, "int")
	call := node(api.NCall, "", a)
	hasNoExpr(t, none, name(""), name("a b"), name("1"), name("while"), name("nil"), name("a.b"), name("a#"), name("\u00e9"),
		name("a;"), name("(a)"), name(strings.Repeat("a", 41)),
		number(api.NName, 1), api.Node{Kind: api.NName, Text: "a", Num: 1}, node(api.NName, "a", a), number(api.NInt, -1),
		number(api.NInt, math.MinInt64), node(api.NInt, "1"), node(api.NInt, "", a),
		number(api.NReal, -1), number(api.NReal, int64(math.Float64bits(math.Inf(1)))),
		number(api.NReal, int64(math.Float64bits(math.NaN()))), number(api.NReal, math.MinInt64), node(api.NReal, "1"),
		node(api.NString, "\xff"), node(api.NString, "\xed\xa0\x80"), api.Node{Kind: api.NString, Num: 1}, node(api.NNil, "nil"),
		node(api.NNil, "", a),
		node(api.NUnary, "", a), node(api.NUnary, "++", a), node(api.NUnary, "x", a), node(api.NUnary, "*", a), node(api.NUnary, "x+", a),
		node(api.NUnary, "(", a), node(api.NUnary, "ref", call), node(api.NUnary, "-"), node(api.NUnary, "-", a, b),
		node(api.NUnary, "x++"), node(api.NUnary, "x++", a, b), node(api.NUnary, "-", none), node(api.NUnary, "int", a),
		node(api.NUnary, "- -", a),
		node(api.NBinary, "+", a), node(api.NBinary, "+"), node(api.NBinary, "+", a, b, a), node(api.NBinary, "=", a, b),
		node(api.NBinary, "", a, b), node(api.NBinary, "->", a, b), node(api.NBinary, "+ -", a, b), node(api.NBinary, "+ c *", a, b),
		node(api.NBinary, ",", a, b),
		node(api.NBinary, "+", a, none), node(api.NAssign, "+", a, b), node(api.NAssign, "==", a, b), node(api.NAssign, "=", a),
		node(api.NAssign, "", a, b), node(api.NAssign, "=", a, b, a),
		node(api.NTuple, ""), node(api.NTuple, "", a), node(api.NTuple, "x", a, b), node(api.NTuple, "", a, none),
		node(api.NCall, ""), node(api.NCall, "f", a), node(api.NCall, "", a, none), node(api.NCall, "", none, a),
		node(api.NDot, "", a), node(api.NDot, "1", a), node(api.NDot, "a.b", a), node(api.NDot, "x"), node(api.NDot, "x", a, b),
		node(api.NDot, "len", a), node(api.NArrow, "x->y", a), node(api.NArrow, "iota", a), node(api.NDot, "iota", a),
		node(api.NIndex, "", a), node(api.NIndex, "", a, b, a), node(api.NIndex, "", a, none), node(api.NSlice, "", a),
		node(api.NSlice, "", a, b), node(api.NSlice, "", a, b, b, b), node(api.NSlice, "", a, api.Node{Num: 1}, b),
		node(api.NNewArr, "", a), node(api.NNewArr, "", a, b), node(api.NNewArr, "", none, kind),
		node(api.NNewArr, "", a, none), node(api.NArrOf, "x"), node(api.NArrOf, "", none), node(api.NListOf, "", kind),
		node(api.NListOf, "", a, none),
		node(api.NNewChan, ""), node(api.NNewChan, "", a), node(api.NNewChan, "", kind, kind), node(api.NNewRef, ""),
		node(api.NNewRef, "", a), node(api.NNewRef, "", node(api.NDot, "x", call)), node(api.NNewRef, "", call, call),
		node(api.NNewRef, "x", call),
		node(api.NLoad, "", a), node(api.NLoad, "M"), node(api.NLoad, "M->N", a), node(api.NLoad, "M", a, b), node(api.NCast, "", kind),
		node(api.NCast, "", node(api.NTName, "T"), a), node(api.NCast, "", node(api.NTArray, "", kind), a),
		node(api.NCast, "int", kind, a),
		node(api.NCast, "", name("int"), a), node(api.NArrByte, ""), node(api.NArrByte, "", a, b), node(api.NArrByte, "byte", a), kind,
		node(api.NTName, "a"), node(api.NTArray, "", kind), node(api.NTFn, "", kind), node(api.NParam, "a", kind),
		node(api.NBlock, ""), node(api.NEmpty, ""), node(api.NStar, ""), node(api.NRange, "", a, b), node(api.NProgram, "M"),
		node(api.NVar, "", a, kind, b), number(-1, 0), number(api.NFn+1, 0), number(math.MaxInt64, 0))
}

// P7.1: trees that no type's text has.
func TestNoTypes(t *testing.T) {
	kind, array := node(api.NTName, "int"), node(api.NTArray, "", node(api.NTName, "T"))
	for _, n := range []api.Node{node(api.NTName, ""), node(api.NTName, "a b"), node(api.NTName, "con"), node(api.NTName, "M.P->x"),
		node(api.NTName, "M->P->Q"), node(api.NTName, "P.X.Y"), node(api.NTName, "M -> P"), node(api.NTName, "int.x"),
		node(api.NTName, "P."), node(api.NTName, "->P"),
		node(api.NTName, "int", kind), node(api.NTArray, ""), node(api.NTArray, "x", kind), node(api.NTArray, "", kind, kind),
		node(api.NTArray, "", none), node(api.NTList, "", name("T")), node(api.NTChan, ""), node(api.NTRef, "", kind),
		node(api.NTRef, "", array),
		node(api.NTRef, ""), node(api.NTTuple, "", kind), node(api.NTTuple, ""), node(api.NTTuple, "x", kind, kind),
		node(api.NTTuple, "", kind, none), node(api.NTFn, "", kind), node(api.NTFn, "", none), number(api.NTName, 1),
		{Kind: api.NTName, Text: "int", Num: 1}} {
		hasNoDecl(t, node(api.NTypeDef, "x", n), node(api.NVar, "", name("x"), n, none))
		hasNoStmt(t, node(api.NVar, "", name("x"), n, none))
		hasNoExpr(t, node(api.NNewChan, "", n), node(api.NNewArr, "", name("x"), n))
	}
}

// P7.1: trees that no statement's text has.
func TestNoStmts(t *testing.T) {
	a, kind, empty, block := name("a"), node(api.NTName, "int"), node(api.NEmpty, ""), node(api.NBlock, "")
	expr := node(api.NExpr, "", a)
	arm := func(kids ...api.Node) api.Node { return node(api.NArm, "", append(kids, block)...) }
	ifElse := func(then, otherwise api.Node) api.Node { return node(api.NIf, "", a, then, otherwise) }
	hasNoStmt(t, none, a, kind, arm(a), node(api.NBlock, "x"), node(api.NBlock, "", none), node(api.NBlock, "", a),
		node(api.NExpr, ""), node(api.NExpr, "", none), node(api.NExpr, "", a, a), node(api.NExpr, "x", a), node(api.NExpr, "", expr),
		node(api.NExpr, "", kind),
		node(api.NEmpty, "x"), node(api.NEmpty, "", a), node(api.NExit, "x"), node(api.NExit, "", a), node(api.NReturn, ""),
		node(api.NReturn, "", a, a), node(api.NReturn, "x", a), node(api.NSpawn, "", none), node(api.NSpawn, ""),
		node(api.NRaise, "", none), node(api.NBreak, "a b"), node(api.NBreak, "", a), node(api.NContinue, "1"),
		node(api.NContinue, "x", a),
		node(api.NVar, ""), node(api.NVar, "", a), node(api.NVar, "", a, kind), node(api.NVar, "", kind, none),
		node(api.NVar, "x", a, kind, none), node(api.NVar, "", a, none, a), node(api.NVar, "", a, none, none),
		node(api.NVar, "", node(api.NInt, ""), kind, a), node(api.NVar, "", name("iota"), kind, a), node(api.NVar, "", a, kind, kind),
		node(api.NCon, "", a), node(api.NCon, ""), node(api.NCon, "", a, none), node(api.NCon, "", name("iota"), a),
		node(api.NCon, "x", a, a), node(api.NTypeDef, "x", kind), node(api.NAdt, "x"), node(api.NModule, "x"),
		node(api.NFnSig, "f", none), node(api.NProgram, "M"),
		node(api.NIf, "", a, empty), node(api.NIf, "", none, empty, none), node(api.NIf, "", a, none, none),
		node(api.NIf, "", a, a, none), node(api.NIf, "x", a, empty, none), node(api.NIf, "", a, empty, empty, empty),
		ifElse(ifElse(empty, none), empty), ifElse(node(api.NWhile, "", a, ifElse(empty, none)), empty),
		ifElse(node(api.NFor, "", a, a, a, ifElse(empty, none)), empty), ifElse(ifElse(empty, ifElse(empty, none)), empty),
		ifElse(node(api.NLabel, "l", node(api.NWhile, "", a, ifElse(empty, none))), block),
		node(api.NWhile, "", a), node(api.NWhile, "", a, none), node(api.NWhile, "x", a, empty),
		node(api.NWhile, "", a, empty, empty), node(api.NDo, "", empty), node(api.NDo, "", empty, none),
		node(api.NDo, "", none, a), node(api.NDo, "", empty, a, a),
		node(api.NFor, "", a, a, a), node(api.NFor, "", a, a, a, none), node(api.NFor, "", a, a, a, a),
		node(api.NFor, "x", a, a, a, empty), node(api.NCase, ""), node(api.NCase, "", none), node(api.NCase, "", a, a),
		node(api.NCase, "", a, expr), node(api.NCase, "x", a), node(api.NCase, "", a, arm(a), expr),
		node(api.NCase, "", a, arm()), node(api.NCase, "", a, node(api.NArm, "")), node(api.NCase, "", a, node(api.NArm, "", a)),
		node(api.NCase, "", a, node(api.NArm, "", a, expr)), node(api.NCase, "", a, node(api.NArm, "x", a, block)),
		node(api.NCase, "", a, node(api.NArm, "", block, a)),
		node(api.NCase, "", a, node(api.NArm, "", a, node(api.NAlt, ""))),
		node(api.NCase, "", a, node(api.NArm, "", a, node(api.NBlock, "x"))), node(api.NCase, "", a, arm(none)),
		node(api.NCase, "", a, arm(node(api.NRange, "", a))), node(api.NCase, "", a, arm(node(api.NRange, "", a, node(api.NStar, "")))),
		node(api.NCase, "", a, arm(node(api.NStar, "*"))), node(api.NCase, "", a, arm(node(api.NStar, "", a))),
		node(api.NAlt, "", arm(a, a)), node(api.NAlt, "", arm(node(api.NRange, "", a, a))), node(api.NAlt, "x"),
		node(api.NAlt, "", a, arm(a)), node(api.NPick, "", a), node(api.NPick, "p"), node(api.NPick, "p", none),
		node(api.NPick, "p", a, arm(node(api.NInt, ""))), node(api.NPick, "p", a, arm(name("iota"))), node(api.NPick, "p.q", a),
		node(api.NPick, "p", a, arm(node(api.NDot, "x", a))),
		node(api.NLabel, "l", empty), node(api.NLabel, "l"), node(api.NLabel, "", block),
		node(api.NLabel, "l", node(api.NLabel, "m", block)), node(api.NLabel, "l", expr),
		node(api.NLabel, "l", ifElse(empty, none)), node(api.NLabel, "l.m", block), node(api.NLabel, "l", block, block),
		node(api.NLabel, "l", node(api.NVar, "", a, kind, none)),
		node(api.NExcept, ""), node(api.NExcept, "", empty), node(api.NExcept, "", node(api.NAlt, "")), node(api.NExcept, "e f", block),
		node(api.NExcept, "e", block, arm(a)), node(api.NExcept, "e", block, arm(node(api.NString, "\xff"))),
		node(api.NExcept, "e", block, block), node(api.NExcept, "", node(api.NExcept, "", block)))
}

// P7.1: trees that no declaration's text has.
func TestNoDecls(t *testing.T) {
	a, kind, block := name("a"), node(api.NTName, "int"), node(api.NBlock, "")
	sig := node(api.NFnSig, "f", none)
	param := node(api.NParam, "a", kind)
	field, method := node(api.NVar, "", a, kind, none), node(api.NFnSig, "g", none)
	bound := func(text string, kids ...api.Node) api.Node { return node(api.NTypeVar, text, kids...) }
	hasNoDecl(t, none, a, kind, block, node(api.NEmpty, ""), node(api.NExpr, "", a), sig, param, node(api.NVar, ""), node(api.NVar, "", a),
		node(api.NVar, "", a, none, none), node(api.NVar, "", a, a, none, a), node(api.NVar, "", none, a),
		node(api.NVar, "", name("iota"), none, a), node(api.NVar, "", kind, kind, a), node(api.NVar, "", a, kind, a, a),
		node(api.NCon, ""), node(api.NCon, "", a), node(api.NCon, "", a, none), node(api.NCon, "x", a, a), node(api.NTypeDef, "", kind),
		node(api.NTypeDef, "T"), node(api.NTypeDef, "T", none), node(api.NTypeDef, "T", kind, kind), node(api.NTypeDef, "T.U", kind),
		node(api.NAdt, ""), node(api.NAdt, "P.Q"), node(api.NAdt, "P", none), node(api.NAdt, "P", a),
		node(api.NAdt, "P", node(api.NVar, "", a, kind, a)), node(api.NAdt, "P", node(api.NVar, "", a, none, none)),
		node(api.NAdt, "P", node(api.NPickArm, "X"), field), node(api.NAdt, "P", node(api.NPickArm, "X"), method),
		node(api.NAdt, "P", node(api.NPickArm, "")),
		node(api.NAdt, "P", node(api.NPickArm, "X", method)), node(api.NAdt, "P", node(api.NPickArm, "X", node(api.NPickArm, "Y"))),
		node(api.NAdt, "P", node(api.NCon, "", a, a)), node(api.NAdt, "P", node(api.NFnSig, "g", bound("T"), none)),
		node(api.NAdt, "P", node(api.NFnSig, "P.g", none)), node(api.NAdt, "P", node(api.NFnSig, "g")),
		node(api.NModule, ""), node(api.NModule, "M.N"), node(api.NModule, "M", none), node(api.NModule, "M", field),
		node(api.NModule, "M", node(api.NModule, "N")), node(api.NModule, "M", node(api.NFn, "f", sig, block)),
		node(api.NModule, "M", node(api.NFnSig, "P.f", none)), node(api.NModule, "M", node(api.NFnSig, "g")),
		node(api.NModule, "M", node(api.NFnSig, "", none)),
		node(api.NFn, "f"), node(api.NFn, "f", sig), node(api.NFn, "g", sig, block), node(api.NFn, "f", sig, none),
		node(api.NFn, "f", sig, node(api.NEmpty, "")), node(api.NFn, "f", sig, node(api.NExcept, "", block)),
		node(api.NFn, "f", block, block), node(api.NFn, "f", sig, block, block), node(api.NFn, "", node(api.NFnSig, "", none), block),
		node(api.NFn, "f.g.h", node(api.NFnSig, "f.g.h", none), block),
		node(api.NFn, "f->g", node(api.NFnSig, "f->g", none), block), node(api.NFn, "f.", node(api.NFnSig, "f.", none),
			block), node(api.NFn, "f", api.Node{Kind: api.NFnSig, Text: "f", Num: 1, Kids: []api.Node{none}}, block))
	for _, kids := range [][]api.Node{{}, {param}, {param, param}, {none, none}, {a, none}, {kind, none}, {param, a},
		{node(api.NParam, ""), none}, {node(api.NParam, "a"), none}, {node(api.NParam, "a", none), none},
		{node(api.NParam, "a", kind, kind), none}, {{Kind: api.NParam, Text: "a", Num: 2, Kids: []api.Node{kind}}, none},
		{{Kind: api.NParam, Text: "a", Num: -1, Kids: []api.Node{kind}}, none}, {bound("T")}, {bound("T"), param},
		{param, bound("T"), none}, {bound(""), none}, {bound("T.U"), none}, {bound("T", none), none}, {bound("T", field), none},
		{bound("T", a), none}, {bound("T"), bound("T", method), none}, {bound("T", method), bound("T", method), none},
		{bound("T", node(api.NFnSig, "g")), none}, {bound("T", node(api.NFnSig, "g", bound("U"), none)), none},
		{bound("T", node(api.NFnSig, "g", bound("U", method), none)), none},
		{bound("T", node(api.NAdt, "P", node(api.NFnSig, "g", bound("U", method), none))), none},
		{bound("T", node(api.NFn, "g", method, block)), none}} {
		sig := node(api.NFnSig, "f", kids...)
		hasNoDecl(t, node(api.NFn, "f", sig, block), node(api.NModule, "M", sig))
	}
	hasNoProgram(t, none, sig, node(api.NProgram, ""), node(api.NProgram, "M.N"), node(api.NProgram, "M", node(api.NProgram, "N")),
		node(api.NProgram, "M;"), api.Node{Kind: api.NProgram, Text: "M", Num: 1})
}

// P7.1: the faults of a text are those of parse.Text.
func TestFaults(t *testing.T) {
	for _, x := range []string{"", "implement", "implement M", "implement M; x: y", "implement M; \xff", "implement M; x := 99r1;", "x",
		`implement M; x := "a`, "implement M; f() { ref x; }", "implement M; f[T]() for { U => } { }",
		strings.Repeat(" ", api.MaxSource+1), "implement M; x := " + strings.Repeat("-", 10) + strings.Repeat("- ", 64) + "a;"} {
		_, want := parse.Text(x)
		if s, f := format.Text(x); s != "" || f != want || f.Code == api.OK {
			t.Errorf("Text(%.40q) = %q, %v, want %v", x, s, f, want)
		}
	}
}

// P7.1: of a tree that is changed somewhere there is a text only if it is read as that tree.
func TestChangedTrees(t *testing.T) {
	good, bad := 0, 0
	samples(t, 6000, func(seed int, x sample) {
		d := dice(seed)
		n := clone(x.tree)
		for range 1 + d.below(2) {
			change(&d, oneOf(&d, all(&n)...))
		}
		text, e := x.write(n)
		if e != api.OK {
			bad++
			if text != "" || e != api.ErrForm {
				t.Errorf("%s has the text %q, %v", show(n), text, e)
			}
			return
		}
		good++
		if back, f := x.read(text); f != (api.Fault{}) || !parse.Same(back, n) {
			t.Errorf("%s has the text %q", show(n), text)
		}
	})
	if good < 500 || bad < 1500 {
		t.Errorf("%d trees have a text, %d have none: too few", good, bad)
	}
}

// change changes a node.
func change(d *dice, n *api.Node) {
	i := 0
	if len(n.Kids) > 0 {
		i = d.below(len(n.Kids))
	}
	switch d.below(7) {
	case 0:
		n.Kind = d.below(api.NInsts+2) - 1
	case 1:
		n.Text = oneOf(d, "", "a", "int", "+", "-", "::", "x++", "++x", "iota", "a.b", "}", ";", "\xff", "while")
	case 2:
		n.Num += int64(d.below(3)) - 1
	case 3:
		n.Kids = append(n.Kids, none)
	case 4:
		n.Kids = n.Kids[:i]
	case 5:
		if len(n.Kids) > 0 {
			n.Kids[i] = clone(n.Kids[d.below(len(n.Kids))])
		}
	case 6:
		if len(n.Kids) > 0 {
			*n = n.Kids[i]
		}
	}
}
