package format

import "acheron/api"

// words has the words with which statements of some kinds begin.
var words = [...]struct {
	kind int
	word string
}{
	{api.NReturn, "return"}, {api.NSpawn, "spawn"}, {api.NRaise, "raise"},
	{api.NExit, "exit"}, {api.NBreak, "break"}, {api.NContinue, "continue"},
}

// word writes the word with which a statement begins, if there is one.
func (w *walker) word(n api.Node) {
	for _, x := range words {
		if x.kind == n.Kind {
			w.put(x.word)
		}
	}
}

// braces writes trees between braces that end lines.
func (w *walker) braces(l []api.Node) {
	w.end("{")
	w.nodes(l)
	w.end("}")
}

func (w *walker) block(n api.Node) { w.braces(n.Kids) }

// withExpr writes a word, perhaps none, and an expression, perhaps none.
func (w *walker) withExpr(n api.Node) {
	w.word(n)
	w.node(kid(n, 0))
	w.end(";")
}

// withName writes a word, perhaps none, and a name, perhaps none.
func (w *walker) withName(n api.Node) {
	w.word(n)
	w.nameIf(n.Text)
	w.end(";")
}

func (w *walker) ifElse(n api.Node) {
	w.put("if")
	w.inParentheses(kid(n, 0))
	w.node(kid(n, 1))
	w.behind("else", kid(n, 2))
}

func (w *walker) while(n api.Node) {
	w.put("while")
	w.inParentheses(kid(n, 0))
	w.node(kid(n, 1))
}

func (w *walker) doWhile(n api.Node) {
	w.put("do")
	w.node(kid(n, 0))
	w.putAs(loopEnd, "while")
	w.inParentheses(kid(n, 1))
	w.end(";")
}

func (w *walker) forLoop(n api.Node) {
	w.put("for", "(")
	w.node(kid(n, 0))
	w.put(";")
	w.node(kid(n, 1))
	w.put(";")
	w.node(kid(n, 2))
	w.put(")")
	w.node(kid(n, 3))
}

func (w *walker) caseOf(n api.Node) {
	w.put("case")
	w.node(kid(n, 0))
	w.braces(behind(n.Kids, 1))
}

func (w *walker) alt(n api.Node) {
	w.put("alt")
	w.braces(n.Kids)
}

func (w *walker) pick(n api.Node) {
	w.put("pick")
	w.name(n)
	w.put(":=")
	w.node(kid(n, 0))
	w.braces(behind(n.Kids, 1))
}

// arm writes labels, and the statements of the block behind them.
func (w *walker) arm(n api.Node) {
	w.list("or", before(n.Kids, 1))
	w.end("=>")
	w.nodes(last(n.Kids, 1).Kids)
}

func (w *walker) span(n api.Node) {
	w.node(kid(n, 0))
	w.put("to")
	w.node(kid(n, 1))
}

func (w *walker) star(api.Node) { w.put("*") }

func (w *walker) label(n api.Node) {
	w.name(n)
	w.put(":")
	w.node(kid(n, 0))
}

func (w *walker) except(n api.Node) {
	w.node(kid(n, 0))
	w.put("exception")
	w.nameIf(n.Text)
	w.braces(behind(n.Kids, 1))
}
