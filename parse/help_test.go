package parse_test

import (
	"slices"
	"strconv"
	"strings"
	"testing"

	"acheron/api"
	"acheron/lex"
	"acheron/parse"
)

// kindNames has the kinds of nodes without their N, in the order of api's constants.
const kindNames = "None TName TArray TList TChan TRef TTuple TFn Param Int Real String Name Nil Unary Binary Assign Tuple" +
	" Call Dot Arrow Index Slice NewArr ArrOf ListOf NewChan NewRef Load Cast ArrByte Block Expr Var If While Do For Case" +
	" Alt Pick Arm Range Star Return Spawn Raise Exit Break Continue Label Except Empty Program Module Con TypeDef Adt" +
	" PickArm FnSig TypeVar Fn"

// dump writes a tree: of each node its kind, #Num and :Text where they are not zero, @At less a number, and its kids in
// parentheses; what is missing is "-".
func dump(n api.Node, less int) string {
	if n.Kind == api.NNone && n.Text == "" && n.Num == 0 && n.At == 0 && len(n.Kids) == 0 {
		return "-"
	}
	s := strings.Fields(kindNames)[n.Kind]
	if n.Num != 0 {
		s += "#" + strconv.FormatInt(n.Num, 10)
	}
	if n.Text != "" {
		s += ":" + n.Text
	}
	s += "@" + strconv.Itoa(n.At-less)
	if len(n.Kids) == 0 {
		return s
	}
	return s + "(" + dumpAll(n.Kids, less) + ")"
}

func dumpAll(l []api.Node, less int) string {
	var words []string
	for _, n := range l {
		words = append(words, dump(n, less))
	}
	return strings.Join(words, " ")
}

// Where a declaration, and a statement, is put to be read.
const (
	beforeDecl = "implement M; "
	beforeStmt = "implement M; f() { "
	behindStmt = " }"
)

// tokens returns the tokens of a text.
func tokens(t *testing.T, text string) []api.Token {
	t.Helper()
	l, f := lex.Tokens(text)
	if f != (api.Fault{}) {
		t.Fatalf("Tokens(%q): %v", text, f)
	}
	return l
}

// program returns the tree of a program's text.
func program(t *testing.T, text string) api.Node {
	t.Helper()
	n, f := parse.Text(text)
	if f != (api.Fault{}) {
		t.Fatalf("Text(%q): %v", text, f)
	}
	return n
}

// expr returns the tree of an expression's text.
func expr(t *testing.T, text string) api.Node {
	t.Helper()
	n, f := parse.Expr(tokens(t, text))
	if f != (api.Fault{}) {
		t.Fatalf("Expr(%q): %v", text, f)
	}
	return n
}

// stmts returns the trees of statements.
func stmts(t *testing.T, text string) []api.Node {
	t.Helper()
	return program(t, beforeStmt+text+behindStmt).Kids[0].Kids[1].Kids
}

// decls returns the trees of declarations.
func decls(t *testing.T, text string) []api.Node {
	t.Helper()
	return program(t, beforeDecl+text).Kids
}

// pair is a text, and the dump of what it says.
type pair struct{ text, want string }

func hasExprs(t *testing.T, l ...pair) {
	t.Helper()
	for _, x := range l {
		if got := dump(expr(t, x.text), 0); got != x.want {
			t.Errorf("Expr(%q) =\n%s, want\n%s", x.text, got, x.want)
		}
	}
}

func hasStmts(t *testing.T, l ...pair) {
	t.Helper()
	for _, x := range l {
		if got := dumpAll(stmts(t, x.text), len(beforeStmt)); got != x.want {
			t.Errorf("%q =\n%s, want\n%s", x.text, got, x.want)
		}
	}
}

func hasDecls(t *testing.T, l ...pair) {
	t.Helper()
	for _, x := range l {
		if got := dumpAll(decls(t, x.text), len(beforeDecl)); got != x.want {
			t.Errorf("%q =\n%s, want\n%s", x.text, got, x.want)
		}
	}
}

// marked returns a text without its "$", and the index of what follows the "$" and blanks: there its fault is.
func marked(text string) (string, int) {
	before, behind, _ := strings.Cut(text, "$")
	return before + behind, len(before) + len(behind) - len(strings.TrimLeft(behind, " "))
}

// fails fails unless the text of a program has a fault where its "$" is, and no tree.
func fails(t *testing.T, code api.Errno, l ...string) {
	t.Helper()
	for _, x := range l {
		text, at := marked(x)
		n, f := parse.Text(text)
		if f != (api.Fault{At: at, Code: code}) || !equal(n, api.Node{}) {
			t.Errorf("Text(%q) = %s, %v, want the fault %d at %d", text, dump(n, 0), f, int(code), at)
		}
	}
}

func failsDecls(t *testing.T, l ...string) {
	t.Helper()
	for _, x := range l {
		fails(t, api.ErrSyntax, beforeDecl+x)
	}
}

func failsStmts(t *testing.T, l ...string) {
	t.Helper()
	for _, x := range l {
		fails(t, api.ErrSyntax, beforeStmt+x+behindStmt)
	}
}

// failsExprs is likewise for expressions, alone and as statements.
func failsExprs(t *testing.T, l ...string) {
	t.Helper()
	for _, x := range l {
		text, at := marked(x)
		n, f := parse.Expr(tokens(t, text))
		if f != (api.Fault{At: at, Code: api.ErrSyntax}) || !equal(n, api.Node{}) {
			t.Errorf("Expr(%q) = %s, %v, want the fault %d at %d", text, dump(n, 0), f, int(api.ErrSyntax), at)
		}
		failsStmts(t, "raise "+x+" ;")
	}
}

// equal reports whether trees are equal, At too.
func equal(a, b api.Node) bool {
	return a.Kind == b.Kind && a.Text == b.Text && a.Num == b.Num && a.At == b.At && slices.EqualFunc(a.Kids, b.Kids, equal)
}

// all returns the nodes of a tree, each one behind its node.
func all(n api.Node) []api.Node {
	l := []api.Node{n}
	for _, kid := range n.Kids {
		l = append(l, all(kid)...)
	}
	return l
}

// dice is a sequence of numbers that is the same in each run.
type dice uint64

func (d *dice) below(n int) int {
	*d = *d*6364136223846793005 + 1442695040888963407
	return int(uint64(*d) >> 33 % uint64(n))
}

func oneOf[T any](d *dice, l ...T) T { return l[d.below(len(l))] }
