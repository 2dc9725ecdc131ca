package format

import (
	"acheron/api"
	"acheron/lex"
)

// Levels of expressions.
const (
	assignLevel = 1
	consLevel   = 4
	unaryLevel  = 13
	suffixLevel = 14
	otherLevel  = 15
)

// levelOf returns the level of an expression.
func levelOf(n api.Node) int {
	switch n.Kind {
	case api.NAssign:
		return assignLevel
	case api.NBinary:
		return operatorLevel(n.Text)
	case api.NUnary:
		if isSuffix(n.Text) {
			return suffixLevel
		}
		return unaryLevel
	case api.NCast, api.NArrByte, api.NLoad, api.NNewRef, api.NNewArr, api.NNewChan:
		return unaryLevel
	case api.NCall, api.NDot, api.NArrow, api.NIndex, api.NSlice:
		return suffixLevel
	}
	return otherLevel
}

// operatorLevel returns the level of a binary operator.
func operatorLevel(sign string) int {
	switch sign {
	case "||":
		return 2
	case "&&":
		return 3
	case "::":
		return consLevel
	case "|":
		return 5
	case "^":
		return 6
	case "&":
		return 7
	case "==", "!=":
		return 8
	case "<", "<=", ">", ">=":
		return 9
	case "<<", ">>":
		return 10
	case "+", "-":
		return 11
	case "*", "/", "%":
		return 12
	}
	return otherLevel
}

func isSuffix(text string) bool { return text == "x++" || text == "x--" }

// operand writes an expression where the least level is given.
func (w *walker) operand(n api.Node, least int) {
	if levelOf(n) >= least {
		w.node(n)
	} else {
		w.inParentheses(n)
	}
}

func (w *walker) inParentheses(n api.Node) {
	w.put("(")
	w.node(n)
	w.put(")")
}

func (w *walker) integer(n api.Node) { w.putToken(plain, api.Token{Kind: api.TokInt, Num: n.Num}) }

func (w *walker) real(n api.Node) { w.putToken(plain, api.Token{Kind: api.TokReal, Num: n.Num}) }

func (w *walker) text(n api.Node) { w.putToken(literal, api.Token{Kind: api.TokString, Text: n.Text}) }

// putToken writes a token; of one that no text has, it writes an empty piece.
func (w *walker) putToken(r role, t api.Token) {
	text, _ := lex.Join([]api.Token{t})
	w.putAs(r, text)
}

func (w *walker) name(n api.Node) { w.putAs(name, n.Text) }

func (w *walker) null(api.Node) { w.putAs(name, "nil") }

func (w *walker) unary(n api.Node) {
	if isSuffix(n.Text) {
		w.operand(kid(n, 0), suffixLevel)
		w.putAs(suffixSign, n.Text[1:])
		return
	}
	sign := n.Text
	if sign == "++x" || sign == "--x" {
		sign = sign[:2]
	}
	if lex.IsSign(sign) {
		w.putAs(prefixSign, sign)
	} else {
		w.put(sign)
	}
	w.operand(kid(n, 0), unaryLevel)
}

func (w *walker) binary(n api.Node) {
	level := levelOf(n)
	if level == consLevel {
		w.operation(n, level+1, level)
	} else {
		w.operation(n, level, level+1)
	}
}

func (w *walker) assign(n api.Node) { w.operation(n, assignLevel+1, assignLevel) }

// operation writes an operator between operands whose least levels are given.
func (w *walker) operation(n api.Node, left, right int) {
	w.operand(kid(n, 0), left)
	w.put(n.Text)
	w.operand(kid(n, 1), right)
}

func (w *walker) tuple(n api.Node) {
	w.put("(")
	w.list(",", n.Kids)
	w.put(")")
}

func (w *walker) call(n api.Node) {
	w.operand(kid(n, 0), suffixLevel)
	w.put("(")
	w.list(",", behind(n.Kids, 1))
	w.put(")")
}

// member writes a field, or a member of a module.
func (w *walker) member(n api.Node) {
	w.operand(kid(n, 0), suffixLevel)
	if n.Kind == api.NDot {
		w.put(".")
	} else {
		w.put("->")
	}
	w.name(n)
}

func (w *walker) index(n api.Node) {
	w.operand(kid(n, 0), suffixLevel)
	w.put("[")
	w.node(kid(n, 1))
	w.put("]")
}

func (w *walker) slice(n api.Node) {
	w.operand(kid(n, 0), suffixLevel)
	w.put("[")
	w.node(kid(n, 1))
	w.putAs(middle, ":")
	w.node(kid(n, 2))
	w.put("]")
}

func (w *walker) newArray(n api.Node) {
	w.put("array", "[")
	w.node(kid(n, 0))
	w.put("]", "of")
	w.node(kid(n, 1))
}

// elements writes an array or a list of given elements.
func (w *walker) elements(n api.Node) {
	w.begin(n)
	w.put("{")
	w.list(",", n.Kids)
	w.put("}")
}

// prefixed writes an operand behind words.
func (w *walker) prefixed(n api.Node) {
	w.begin(n)
	w.operand(kid(n, 0), unaryLevel)
}

func (w *walker) load(n api.Node) {
	w.put("load")
	w.name(n)
	w.operand(kid(n, 0), unaryLevel)
}

func (w *walker) cast(n api.Node) {
	w.node(kid(n, 0))
	w.operand(kid(n, 1), unaryLevel)
}
