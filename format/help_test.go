package format_test

import (
	"slices"
	"strconv"
	"strings"
	"testing"

	"acheron/api"
	"acheron/format"
	"acheron/lex"
	"acheron/parse"
)

// tree returns the tree of a program's text.
func tree(t *testing.T, text string) api.Node {
	t.Helper()
	n, f := parse.Text(text)
	if f != (api.Fault{}) {
		t.Fatalf("parse.Text(%q): %v", text, f)
	}
	return n
}

// exprTree returns the tree of an expression's text, or a fault.
func exprTree(text string) (api.Node, api.Fault) {
	l, f := lex.Tokens(text)
	if f != (api.Fault{}) {
		return api.Node{}, f
	}
	return parse.Expr(l)
}

// expr returns the canonical text of an expression's text.
func expr(t *testing.T, text string) string {
	t.Helper()
	n, f := exprTree(text)
	if f != (api.Fault{}) {
		t.Fatalf("parse.Expr of %q: %v", text, f)
	}
	s, e := format.Expr(n)
	if e != api.OK {
		t.Errorf("Expr of %q: %v", text, e)
	}
	return s
}

// isText fails unless a text, and its tree, have a canonical text, which is its own one.
func isText(t *testing.T, text, want string) {
	t.Helper()
	for _, x := range []string{text, want} {
		if s, f := format.Text(x); s != want || f != (api.Fault{}) {
			t.Errorf("Text(%q) =\n%s%v, want\n%s", x, s, f, want)
		}
		if s, e := format.Program(tree(t, x)); s != want || e != api.OK {
			t.Errorf("Program of %q =\n%s%v, want\n%s", x, s, e, want)
		}
	}
}

// isExpr is likewise for an expression.
func isExpr(t *testing.T, text, want string) {
	t.Helper()
	for _, x := range []string{text, want} {
		if s := expr(t, x); s != want {
			t.Errorf("Expr of %q = %q, want %q", x, s, want)
		}
	}
}

const beforeStmt = "implement M;\nf() {\n"

// isStmt is likewise for statements; the lines that are wanted are without the tab in front of each.
func isStmt(t *testing.T, text, want string) {
	t.Helper()
	lines := "\t" + strings.ReplaceAll(want, "\n", "\n\t")
	isText(t, beforeStmt+text+"}", beforeStmt+lines+"\n}\n")
}

// isDecl is likewise for declarations.
func isDecl(t *testing.T, text, want string) {
	t.Helper()
	isText(t, "implement M;"+text, "implement M;\n"+want+"\n")
}

// node returns a tree.
func node(kind int, text string, kids ...api.Node) api.Node {
	return api.Node{Kind: kind, Text: text, Kids: kids}
}

// clone copies a tree.
func clone(n api.Node) api.Node {
	n.Kids = slices.Clone(n.Kids)
	for i, k := range n.Kids {
		n.Kids[i] = clone(k)
	}
	return n
}

// all returns the nodes of a tree as pointers into it.
func all(n *api.Node) []*api.Node {
	l := []*api.Node{n}
	for i := range n.Kids {
		l = append(l, all(&n.Kids[i])...)
	}
	return l
}

// show writes a tree for a message.
func show(n api.Node) string {
	s := strconv.Itoa(n.Kind) + " " + strconv.Quote(n.Text) + " " + strconv.FormatInt(n.Num, 10)
	for _, k := range n.Kids {
		s += " (" + show(k) + ")"
	}
	return s
}

// dice is a sequence of numbers that is the same in each run.
type dice uint64

func (d *dice) below(n int) int {
	*d = *d*6364136223846793005 + 1442695040888963407
	return int(uint64(*d) >> 33 % uint64(n))
}

func (d *dice) chance(n int) bool { return d.below(n) == 0 }

func oneOf[T any](d *dice, l ...T) T { return l[d.below(len(l))] }
