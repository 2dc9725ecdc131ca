package format_test

import (
	"slices"
	"strings"
	"testing"

	"acheron/api"
	"acheron/format"
	"acheron/lex"
	"acheron/parse"
)

// sample is a random tree, its canonical text, and what has made and reads it.
type sample struct {
	tree  api.Node
	text  string
	write func(api.Node) (string, api.Errno)
	read  func(string) (api.Node, api.Fault)
}

// samples hands out random programs and expressions.
func samples(t *testing.T, n int, use func(seed int, x sample)) {
	t.Helper()
	for seed := range n {
		g := &gen{dice(seed)}
		x := sample{write: format.Program, read: parse.Text}
		if seed%3 == 0 {
			x.tree, x.write, x.read = g.expr(1+seed%7), format.Expr, exprTree
		} else {
			x.tree = g.program(1 + seed%4)
		}
		text, e := x.write(x.tree)
		if e != api.OK {
			t.Fatalf("%d: %v of the tree %s", seed, e, show(x.tree))
		}
		x.text = text
		use(seed, x)
	}
}

// P7.1, P7.2: a tree that a text has has a canonical text, whose tree it is, and whose canonical text is itself.
func TestTreesOfTexts(t *testing.T) {
	kinds := map[int]bool{}
	samples(t, 6000, func(seed int, x sample) {
		back, f := x.read(x.text)
		if f != (api.Fault{}) || !parse.Same(back, x.tree) {
			t.Fatalf("%d: %s\n%v, its tree is not %s", seed, x.text, f, show(x.tree))
		}
		if again, e := x.write(back); again != x.text || e != api.OK {
			t.Fatalf("%d: %s\nis written again as\n%s%v", seed, x.text, again, e)
		}
		if x.tree.Kind == api.NProgram {
			if s, f := format.Text(x.text); s != x.text || f != (api.Fault{}) {
				t.Fatalf("%d: Text of\n%sis\n%s%v", seed, x.text, s, f)
			}
		}
		for _, n := range all(&x.tree) {
			kinds[n.Kind] = true
		}
	})
	for kind := range api.NFn + 1 {
		if !kinds[kind] && kind != api.NTFn {
			t.Errorf("no random tree has the kind %d", kind)
		}
	}
}

// P7.2: texts with other blanks and comments have the same canonical text, and no other tree has it.
func TestOneText(t *testing.T) {
	trees := map[string]api.Node{}
	blanks := dice(1)
	samples(t, 3000, func(seed int, x sample) {
		if n, ok := trees[x.text]; ok && !parse.Same(n, x.tree) {
			t.Errorf("%s is the text of %s and of %s", x.text, show(n), show(x.tree))
		}
		trees[x.text] = x.tree
		if x.tree.Kind != api.NProgram {
			return
		}
		l, _ := lex.Tokens(x.text)
		var b strings.Builder
		for i, token := range l[:len(l)-1] {
			b.WriteString(strings.TrimSpace(x.text[token.At:l[i+1].At]) + oneOf(&blanks, "\n", " ", " # }\n", "\t\r\n\n"))
		}
		if s, f := format.Text(b.String()); s != x.text || f != (api.Fault{}) {
			t.Errorf("Text(%q) =\n%s%v, want\n%s", b.String(), s, f, x.text)
		}
	})
}

// P7.2: places, and empty lists for none, are the same tree.
func TestPlacesDoNotCount(t *testing.T) {
	samples(t, 300, func(seed int, x sample) {
		n := clone(x.tree)
		for i, k := range all(&n) {
			k.At = 7 * i
			if k.Kids == nil {
				k.Kids = []api.Node{}
			}
		}
		if s, e := x.write(n); s != x.text || e != api.OK {
			t.Errorf("%q is %q, %v with other places", x.text, s, e)
		}
	})
}

// P7.3: no line is empty or ends with a blank; an expression is one line.
func TestLinesAreFull(t *testing.T) {
	samples(t, 3000, func(seed int, x sample) {
		text := x.text
		if x.tree.Kind == api.NProgram {
			text = strings.TrimSuffix(text, "\n")
		} else if strings.Contains(text, "\n") {
			t.Errorf("%q has a line feed", text)
		}
		for _, line := range strings.Split(text, "\n") {
			if line == "" || strings.TrimRight(line, " \t\r") != line || strings.TrimLeft(line, "\t ") != strings.TrimLeft(line, "\t") {
				t.Errorf("%q has the line %q", x.text, line)
			}
		}
	})
}

// P7.3: without a pair of its parentheses a text has another tree, or none.
func TestParenthesesAreNeeded(t *testing.T) {
	pairs := 0
	samples(t, 2500, func(seed int, x sample) {
		l, _ := lex.Tokens(x.text)
		if len(l) > 400 {
			return
		}
		var open []int
		for _, token := range l {
			switch {
			case token.Kind != api.TokSign:
			case token.Text == "(":
				open = append(open, token.At)
			case token.Text == ")":
				first := open[len(open)-1]
				open = open[:len(open)-1]
				without := x.text[:first] + " " + x.text[first+1:token.At] + " " + x.text[token.At+1:]
				if n, f := x.read(without); f == (api.Fault{}) && parse.Same(n, x.tree) {
					t.Errorf("%s needs no parentheses at %d", x.text, first)
				}
				pairs++
			}
		}
	})
	if pairs < 2000 {
		t.Errorf("only %d pairs", pairs)
	}
}

// R4, P2: the tree is as it was, and equal calls have equal results.
func TestTreesStay(t *testing.T) {
	samples(t, 500, func(seed int, x sample) {
		before := show(x.tree)
		for range 3 {
			if s, e := x.write(x.tree); s != x.text || e != api.OK {
				t.Errorf("%q is %q, %v the next time", x.text, s, e)
			}
		}
		if show(x.tree) != before {
			t.Errorf("%s has become %s", before, show(x.tree))
		}
	})
}

// R4: nodes behind the end of a list of kids are not changed.
func TestMemoryBehindLists(t *testing.T) {
	samples(t, 300, func(seed int, x sample) {
		n := clone(x.tree)
		nodes := all(&n)
		slices.Reverse(nodes)
		for _, k := range nodes {
			k.Kids = append(k.Kids, api.Node{Kind: 77})
			k.Kids = k.Kids[:len(k.Kids)-1]
		}
		x.write(n)
		for _, k := range all(&n) {
			if k.Kids[:len(k.Kids)+1][len(k.Kids)].Kind != 77 {
				t.Fatalf("%s: memory behind the kids of %s is changed", x.text, show(*k))
			}
		}
	})
}
