package parse_test

import (
	"slices"
	"strings"
	"testing"

	"acheron/api"
	"acheron/parse"
)

func leaf(kind int) api.Node { return api.Node{Kind: kind} }

func branch(kids ...api.Node) api.Node { return api.Node{Kids: kids} }

// P6.1: of any trees.
func TestDepthAndSize(t *testing.T) {
	long := api.Node{Kind: -1}
	for range 5000 {
		long = branch(leaf(7), long)
	}
	for _, x := range []struct {
		n           api.Node
		depth, size int
	}{
		{api.Node{}, 1, 1}, {leaf(api.NProgram), 1, 1}, {api.Node{Kids: []api.Node{}}, 1, 1}, {branch(leaf(1)), 2, 2},
		{branch(leaf(0), leaf(99), leaf(-3)), 2, 4}, {branch(branch(leaf(0)), leaf(0)), 3, 4}, {branch(leaf(0), branch(leaf(0), branch(leaf(0)))), 4, 6},
		{branch(branch(branch(leaf(1))), branch(leaf(1))), 4, 6}, {long, 5001, 10001},
		{program(t, "implement M; f() { return; }"), 5, 7}, // with the result and the value that are missing
	} {
		if d, s := parse.Depth(x.n), parse.Size(x.n); d != x.depth || s != x.size {
			t.Errorf("Depth = %d, Size = %d, want %d, %d", d, s, x.depth, x.size)
		}
	}
}

// distinct has trees no two of which are the same.
func distinct() []api.Node {
	return []api.Node{{}, leaf(1), leaf(-1), {Text: "a"}, {Text: "A"}, {Text: " "}, {Num: 1}, {Num: -1}, {Kind: 1, Num: 1}, {Kind: 1, Text: "a"},
		branch(leaf(0)), branch(leaf(0), leaf(0)), branch(leaf(1)), branch(branch(leaf(0))), branch(leaf(0), leaf(1)), branch(leaf(1), leaf(0)),
		branch(branch(leaf(0)), leaf(0)), branch(leaf(0), branch(leaf(0))), {Kind: 1, Kids: []api.Node{{}}}, branch(branch(leaf(1))), branch(api.Node{Num: 1})}
}

// moved returns a tree with other places; its leaves have an empty list instead of none.
func moved(n api.Node) api.Node {
	n.At += 7
	kids := []api.Node{}
	for _, k := range n.Kids {
		kids = append(kids, moved(k))
	}
	n.Kids = kids
	return n
}

// P6.2: Same is an equivalence, which looks at all but places.
func TestSame(t *testing.T) {
	for i, a := range distinct() {
		for j, b := range distinct() {
			want := i == j
			if parse.Same(a, b) != want || parse.Same(moved(a), b) != want || parse.Same(a, moved(b)) != want || parse.Same(branch(b, a), branch(b, b)) != want {
				t.Errorf("Same of %v and %v is not %v", a, b, want)
			}
		}
	}
}

// P6.1: the limit of depth, which comes behind all other faults.
func TestDepthLimit(t *testing.T) {
	for _, x := range []struct{ before, behind string }{{"- ", ""}, {"a + (", ")"}, {"f(", ")"}, {"", "[0]"}, {"a = ", ""}, {"a :: ", ""}} {
		for _, n := range []int{api.MaxNest - 2, api.MaxNest - 1, api.MaxNest, 3000} {
			text := strings.Repeat(x.before, n) + "a" + strings.Repeat(x.behind, n)
			got, f := parse.Expr(tokens(t, text))
			deep := n+1 > api.MaxNest
			if deep && (f != api.Fault{Code: api.ErrLimit} || !equal(got, api.Node{})) || !deep && (f != api.Fault{} || parse.Depth(got) != n+1) {
				t.Errorf("%d times %s a %s: %v, depth %d", n, x.before, x.behind, f, parse.Depth(got))
			}
		}
	}
	deep := strings.Repeat("{", 62) + strings.Repeat("}", 62)
	if n := program(t, "implement M; f() "+deep); parse.Depth(n) != api.MaxNest {
		t.Errorf("62 blocks have the depth %d", parse.Depth(n))
	}
	fails(t, api.ErrLimit, "$implement M; f() {"+deep+"}", "$implement M; x: "+strings.Repeat("list of ", 62)+"int;",
		"$implement M; f(a, b: "+strings.Repeat("list of ", 9000)+"int) { }")
	fails(t, api.ErrSyntax, "implement M; f() {"+deep+"} $)", "implement M; f() {"+deep+"} g() { $ref x; }")
	hasExprs(t, pair{strings.Repeat("(", 30000) + "a" + strings.Repeat(")", 30000), "Name:a@30000"})
	failsExprs(t, strings.Repeat("(", 30000)+"$")
}

// P6.1: types of many parameters are no burden where the text is wrong.
func TestManyParameters(t *testing.T) {
	many := strings.Repeat("a,", 16000)
	fails(t, api.ErrSyntax, "implement M; f("+many+"a: ("+many+"a)) $;")
}

// P6.1: lists of any tokens: the end, kinds, texts.
func TestAnyTokens(t *testing.T) {
	key := func(s string, at int) api.Token { return api.Token{Kind: api.TokKey, Text: s, At: at} }
	sign := func(s string, at int) api.Token { return api.Token{Kind: api.TokSign, Text: s, At: at} }
	name := func(s string, at int) api.Token { return api.Token{Kind: api.TokName, Text: s, At: at} }
	end := func(at int) api.Token { return api.Token{Kind: api.TokEnd, Text: ";", Num: 3, At: at} }
	short := []api.Token{key("implement", 9), name("M", 5), sign(";", 7)}
	for _, x := range []struct {
		l    []api.Token
		want string
		f    api.Fault
	}{
		{nil, "-", api.Fault{Code: api.ErrSyntax}}, {[]api.Token{end(4)}, "-", api.Fault{At: 4, Code: api.ErrSyntax}},
		{short, "Program:M@9", api.Fault{}}, {append(slices.Clone(short), end(4), sign(")", 8), end(6)), "Program:M@9", api.Fault{}},
		{short[:2], "-", api.Fault{Code: api.ErrSyntax}}, {append(slices.Clone(short[:2]), end(-4), sign(";", 8)), "-", api.Fault{At: -4, Code: api.ErrSyntax}},
		{[]api.Token{sign("implement", 1), name("", 2), key(";", 3)}, "Program@1", api.Fault{}},
		{[]api.Token{name("implement", 1), name("M", 2), sign(";", 3)}, "-", api.Fault{At: 1, Code: api.ErrSyntax}},
		{append(slices.Clone(short), name("while", 3), sign(":=", 2), api.Token{Kind: api.TokInt, Text: "x", Num: -5, At: 1}, sign(";", 0)),
			"Program:M@9(Var@3(Name:while@3 - Int#-5@1))", api.Fault{}},
		{append(slices.Clone(short), api.Token{Kind: 8, Text: "x", At: 3}), "-", api.Fault{At: 3, Code: api.ErrSyntax}},
		{append(slices.Clone(short), api.Token{Kind: -1, Text: ";", At: 3}), "-", api.Fault{At: 3, Code: api.ErrSyntax}},
		{append(slices.Clone(short), name(";", 3)), "-", api.Fault{Code: api.ErrSyntax}},
		{append(slices.Clone(short), key("x", 3)), "-", api.Fault{At: 3, Code: api.ErrSyntax}},
		{append(slices.Clone(short), api.Token{Kind: api.TokString, Text: "x", At: 3}), "-", api.Fault{At: 3, Code: api.ErrSyntax}},
	} {
		before := slices.Clone(x.l)
		n, f := parse.Program(x.l)
		if dump(n, 0) != x.want || f != x.f {
			t.Errorf("Program(%v) = %s, %v, want %s, %v", x.l, dump(n, 0), f, x.want, x.f)
		}
		if !slices.Equal(before, x.l) {
			t.Errorf("Program changes %v to %v", before, x.l)
		}
	}
	for _, x := range []struct {
		t    api.Token
		want string
	}{
		{api.Token{Kind: api.TokChar, Text: "x", Num: -7, At: -1}, "Int#-7@-1"}, {api.Token{Kind: api.TokReal, Text: "x", Num: -1, At: 2}, "Real#-1@2"},
		{api.Token{Kind: api.TokString, Text: "\xff", Num: 4, At: 2}, "String:\xff@2"}, {api.Token{Kind: api.TokName, Text: "a b", Num: 4, At: 2}, "Name:a b@2"},
		{api.Token{Kind: api.TokKey, Text: "iota", Num: 4, At: 2}, "Name:iota@2"}, {api.Token{Kind: api.TokKey, Text: "nil", Num: 4, At: 2}, "Nil@2"},
		{api.Token{Kind: api.TokName, Text: "nil", At: 2}, "Name:nil@2"},
	} {
		for _, l := range [][]api.Token{{x.t}, {x.t, end(3)}, {sign("(", 9), x.t, sign(")", 9), end(3), end(4)}} {
			if n, f := parse.Expr(l); dump(n, 0) != x.want || f != (api.Fault{}) {
				t.Errorf("Expr(%v) = %s, %v, want %s", l, dump(n, 0), f, x.want)
			}
		}
	}
}
