package parse_test

import (
	"slices"
	"strings"
	"testing"

	"acheron/api"
	"acheron/lex"
	"acheron/parse"
)

// sample has each declaration and each statement of the grammar.
const sample = `implement M;
M: module { x, y: con iota * 2; T: type list of int; P: adt { a: int; }; f: fn[T](a: T, l: list of T): int for { T => g: fn(): T; }; };
P: adt { a, b: int; f: fn(p: self ref P): string; pick { X => c: M->T; d: real; Y => } };
c, d: con (1 + 2) * (3); T: type (int, array of chan of ref P.X);
v, w: big = 5; u := load M "path"; z: T;
P.f(p: self ref P): string { return p.s[1:(2)]; }
g[T, U](a, b: T) for { T => h: fn(); U => T => i: fn(x: int): U; } {
	; { } x: int = 1; x, y: int; x: con iota; (x, y) := (1, 'a'); x <-= <-c; spawn f((a)); raise "e"; exit;
	if (a) b; if ((a)) { } else c; while () break; l: while (a) { continue l; } do x++; while (--x); for (i := 0; i < 9; i++) ;
	case (x) { 1 or (2) to 3 => a; b: int; 4 => * => { } }
	m: alt { x := <-c => c <-= (1); * => array[] of { 1, (2) }; }
	pick p := q { X or Y => a = b :: (c); * => array[(1)] of int; }
	{ a; } exception e { "a*" or "b" => return; * => list of { (a, (b)) }; ref P(1, (2)); }
	n: { } exception { }
	int -(a) + b.c->d(nil, 1.5) * hd array of byte s;
}
`

// between returns a text with something else between each two of its tokens.
func between(t *testing.T, text, s string) string {
	l := tokens(t, text)
	var b strings.Builder
	b.WriteString(s)
	for i, token := range l[:len(l)-1] {
		b.WriteString(strings.TrimRight(text[token.At:l[i+1].At], " \t\n") + s)
	}
	return b.String()
}

// P6.3: blanks and comments change nothing but places.
func TestBlanks(t *testing.T) {
	want := program(t, sample)
	for _, s := range []string{" ", "\n", "\t \r\n", "# a ; } )\n", " #\n#\xc3\xa9\n"} {
		if got := program(t, between(t, sample, s)); !parse.Same(got, want) {
			t.Errorf("with %q between its tokens the sample is\n%s, not\n%s", s, dump(got, 0), dump(want, 0))
		}
	}
	joined, _ := lex.Join(tokens(t, sample))
	if got := program(t, joined); !parse.Same(got, want) {
		t.Errorf("joined, the sample is\n%s, not\n%s", dump(got, 0), dump(want, 0))
	}
}

// P6.3: parentheses around expressions that are in parentheses change nothing but places.
func TestParentheses(t *testing.T) {
	want := program(t, sample)
	for _, s := range []string{"(1 + 2)", "(3)", "(a)", "(x)", "(2)", "(c)", "(1)", "(b)"} {
		for _, many := range []int{1, 50} {
			doubled := strings.ReplaceAll(sample, s, strings.Repeat("(", many)+s+strings.Repeat(")", many))
			if doubled == sample {
				t.Errorf("the sample has no %s", s)
			}
			if got := program(t, doubled); !parse.Same(got, want) {
				t.Errorf("with more parentheses around %s the sample is\n%s, not\n%s", s, dump(got, 0), dump(want, 0))
			}
		}
	}
	for seed := range 500 {
		g := &gen{dice: dice(seed)}
		n := g.expr(1, 1+seed%6)
		l := append(slices.Clone(g.l), api.Token{Kind: api.TokSign, Text: ")"})
		l = slices.Insert(l, 0, api.Token{Kind: api.TokSign, Text: "("})
		if got, f := parse.Expr(l); f != (api.Fault{}) || !equal(got, n) {
			t.Errorf("%s: %v, %s, want %s", words(l), f, dump(got, 0), dump(n, 0))
		}
	}
}

// P6.4: statements may be put into a block.
func TestBlocks(t *testing.T) {
	for seed := range 500 {
		g := &gen{dice: dice(seed), at: 1}
		n := g.stmt(1 + seed%4)
		for _, x := range []struct{ before, behind string }{{"f() {", "}"}, {"f() { {", "} }"}, {"f() { if (a) {", "} else ; }"}} {
			l := slices.Concat(tokensOf("implement M; "+x.before), g.l, tokensOf(x.behind))
			tree, f := parse.Program(l)
			if f != (api.Fault{}) || !slices.ContainsFunc(all(tree), func(b api.Node) bool { return b.Kind == api.NBlock && len(b.Kids) == 1 && equal(b.Kids[0], n) }) {
				t.Errorf("%s: %v, %s has not %s in a block", words(l), f, dump(tree, 0), dump(n, 0))
			}
		}
	}
}

// P6.4: declarations may be put behind other ones.
func TestDeclarations(t *testing.T) {
	for seed := range 500 {
		g := &gen{dice: dice(seed), at: 1}
		head := len(tokensOf(beforeDecl))
		g.l = tokensOf(beforeDecl)
		a := g.declaration(1 + seed%3)
		middle := len(g.l)
		b := g.declaration(1 + seed%2)
		for _, x := range []struct {
			l    []api.Token
			want []api.Node
		}{
			{g.l[:middle], []api.Node{a}}, {g.l, []api.Node{a, b}}, {slices.Concat(g.l[:head], g.l[middle:]), []api.Node{b}},
			{slices.Concat(g.l[:head], g.l[middle:], g.l[head:middle], g.l[middle:]), []api.Node{b, a, b}},
		} {
			if tree, f := parse.Program(x.l); f != (api.Fault{}) || !slices.EqualFunc(tree.Kids, x.want, equal) {
				t.Errorf("%s: %v, %s, want %s", words(x.l), f, dumpAll(tree.Kids, 0), dumpAll(x.want, 0))
			}
		}
	}
}

// tokensOf returns the tokens of a text that has some, without the end.
func tokensOf(text string) []api.Token {
	l, _ := lex.Tokens(text)
	return l[:len(l)-1]
}
