package parse_test

import (
	"testing"

	"acheron/api"
	"acheron/parse"
)

// P6.1: the tokens of random programs and expressions have their trees, with all places; behind the end nothing counts.
func TestRandomTrees(t *testing.T) {
	kinds := map[int]int{}
	for seed := range 6000 {
		g := &gen{dice: dice(seed)}
		read := parse.Program
		var want api.Node
		if seed%3 == 0 {
			read = parse.Expr
			want = g.expr(1, 1+seed%8)
		} else {
			want = g.program(1 + seed%5)
		}
		if seed%2 == 0 {
			g.l = append(g.l, api.Token{Kind: api.TokEnd, At: -5}, api.Token{Kind: api.TokSign, Text: ";"})
		}
		got, f := read(g.l)
		if f != (api.Fault{}) || !equal(got, want) {
			t.Fatalf("%s: %v, tree\n%s, want\n%s", words(g.l), f, dump(got, 0), dump(want, 0))
		}
		for _, n := range all(got) {
			kinds[n.Kind]++
		}
	}
	for kind := range api.NFn + 1 {
		if kinds[kind] == 0 && kind != api.NTFn {
			t.Errorf("no random tree has the kind %d", kind)
		}
	}
}

// P6.2: where the nodes of a text's tree are.
func TestPlaces(t *testing.T) {
	for seed := range 1000 {
		g := &gen{dice: dice(seed)}
		g.program(1 + seed%5)
		tree, _ := parse.Program(g.l)
		last := g.l[len(g.l)-1].At
		for _, n := range all(tree) {
			if n.Kind != api.NNone && (n.At < g.l[0].At || n.At > last) {
				t.Fatalf("%s is not within the text", dump(n, 0))
			}
			for _, k := range n.Kids {
				if k.Kind != api.NNone && k.At < n.At {
					t.Fatalf("%s is before %s", dump(k, 0), dump(n, 0))
				}
			}
		}
	}
}

// P2, R4: tokens have their tree again when the first one was changed, whose nodes share no memory.
func TestAgain(t *testing.T) {
	for seed := range 300 {
		g := &gen{dice: dice(seed)}
		want := g.program(4)
		for range 2 {
			tree, _ := parse.Program(g.l)
			if !equal(tree, want) {
				t.Fatalf("%s has %s", words(g.l), dump(tree, 0))
			}
			spoil(t, tree)
		}
	}
}

// spoil changes all nodes of a tree, each of which must not have been changed with another one.
func spoil(t *testing.T, n api.Node) {
	for i, k := range n.Kids {
		if k.Kind < 0 {
			t.Fatal("two nodes share memory")
		}
		spoil(t, k)
		n.Kids[i] = api.Node{Kind: -1}
	}
}
