package format_test

import (
	"strings"
	"testing"

	"acheron/api"
	"acheron/format"
	"acheron/parse"
)

// P7.1: a canonical text has at most api.MaxSource bytes.
func TestMaxSource(t *testing.T) {
	for _, x := range []struct {
		bytes int
		ok    bool
	}{{api.MaxSource - 1, true}, {api.MaxSource, true}, {api.MaxSource + 1, false}, {2 * api.MaxSource, false}} {
		long := node(api.NString, strings.Repeat("x", x.bytes-2))
		if s, e := format.Expr(long); (e == api.OK) != x.ok || x.ok && len(s) != x.bytes || !x.ok && (s != "" || e != api.ErrForm) {
			t.Errorf("Expr of a string of %d bytes has %d bytes, %v", x.bytes, len(s), e)
		}
		long.Text = long.Text[:x.bytes-2-len("implement M;\nx := ;\n")]
		n := node(api.NProgram, "M", node(api.NVar, "", name("x"), api.Node{}, long))
		if s, e := format.Program(n); (e == api.OK) != x.ok || x.ok && len(s) != x.bytes || !x.ok && (s != "" || e != api.ErrForm) {
			t.Errorf("Program of %d bytes has %d bytes, %v", x.bytes, len(s), e)
		}
	}
}

// P7.1: a text whose canonical text is too long.
func TestTextLimit(t *testing.T) {
	for _, x := range []struct {
		empty, more int // statements ";" are lines of 3 bytes; more: how long the name of a type is
		ok          bool
	}{
		{0, 0, true}, {21000, 0, true}, {21838, 0, true}, {21839, 0, false}, {21836, 1, true}, {21836, 2, true}, {21836, 3, false}, {30000, 0, false}, {65000, 0, false},
	} {
		text := "implement M;f(){" + strings.Repeat(";", x.empty) + "}"
		want := len("implement M;\nf() {\n}\n") + 3*x.empty
		if x.empty == 0 {
			want = len("implement M;\nf() {}\n")
		}
		if x.more > 0 {
			text += "x:" + strings.Repeat("T", x.more) + ";"
			want += len("x: ;\n") + x.more
		}
		s, f := format.Text(text)
		if x.ok && (len(s) != want || f != api.Fault{}) || !x.ok && (s != "" || f != api.Fault{Code: api.ErrLimit}) || x.ok != (want <= api.MaxSource) {
			t.Errorf("%d: the canonical text of %d bytes has %d, %v", x.empty, want, len(s), f)
		}
		n := tree(t, text)
		if s, e := format.Program(n); (e == api.OK) != x.ok || x.ok && len(s) != want || !x.ok && (s != "" || e != api.ErrForm) {
			t.Errorf("%d: Program has %d bytes, %v", x.empty, len(s), e)
		}
	}
}

// chain puts a tree into others of a kind, so many times.
func chain(n api.Node, times int, put func(api.Node) api.Node) api.Node {
	for range times {
		n = put(n)
	}
	return n
}

// P7.1: a tree may be as deep as one that is read.
func TestMaxNest(t *testing.T) {
	for _, put := range []func(api.Node) api.Node{
		func(n api.Node) api.Node { return node(api.NUnary, "-", n) },
		func(n api.Node) api.Node { return node(api.NUnary, "x++", n) },
		func(n api.Node) api.Node { return node(api.NBinary, "+", n, name("b")) },
		func(n api.Node) api.Node { return node(api.NBinary, "+", name("b"), n) },
		func(n api.Node) api.Node { return node(api.NListOf, "", n) },
		func(n api.Node) api.Node { return node(api.NCall, "", name("f"), n) },
	} {
		n := chain(name("a"), api.MaxNest-1, put)
		s, e := format.Expr(n)
		if back, f := exprTree(s); e != api.OK || f != (api.Fault{}) || !parse.Same(back, n) {
			t.Errorf("a tree of depth %d has the text %q, %v", parse.Depth(n), s, e)
		}
		for _, more := range []int{1, 2, 1000, 1 << 15} {
			if s, e := format.Expr(chain(n, more, put)); s != "" || e != api.ErrForm {
				t.Errorf("a tree of depth %d has the text %q, %v", api.MaxNest+more, s, e)
			}
		}
	}
	blocks := func(n int) api.Node {
		block := chain(node(api.NBlock, ""), n-1, func(n api.Node) api.Node { return node(api.NBlock, "", n) })
		return node(api.NProgram, "M", node(api.NFn, "f", node(api.NFnSig, "f", api.Node{}), block))
	}
	if s, e := format.Program(blocks(api.MaxNest - 2)); e != api.OK || !strings.Contains(s, "\n"+strings.Repeat("\t", api.MaxNest-3)+"{}\n") {
		t.Errorf("%s%v", s, e)
	}
	hasNoProgram(t, blocks(api.MaxNest-1), blocks(1<<15))
}

// P1: trees that have some of their nodes very often, or themselves, come to an end.
func TestManyNodes(t *testing.T) {
	for _, put := range []func(api.Node) api.Node{
		func(n api.Node) api.Node { return node(api.NBinary, "+", n, n) },
		func(n api.Node) api.Node { return node(api.NBinary, "", n, n) },
		func(n api.Node) api.Node { return node(api.NTuple, "", n, n, n) },
		func(n api.Node) api.Node { return node(api.NBlock, "", n, n) },
		func(n api.Node) api.Node { return node(api.NTypeVar, "T", n, n) },
		func(n api.Node) api.Node { return node(api.NFnSig, "f", node(api.NTypeVar, "T", n, n), api.Node{}) },
		func(n api.Node) api.Node { return node(api.NArm, "", n, n) },
		func(n api.Node) api.Node { return node(api.NFn, "f", n, n) },
		func(n api.Node) api.Node { return node(api.NAdt, "P", n, node(api.NPickArm, "X", n), n) },
		func(n api.Node) api.Node { return node(-1, "", n, n) },
	} {
		for _, first := range []api.Node{{}, name("a"), name(""), node(api.NBlock, ""), node(api.NString, "\xff")} {
			n := chain(first, 60, put)
			if s, e := format.Expr(n); s != "" || e != api.ErrForm {
				t.Errorf("Expr = %q, %v", s, e)
			}
			if s, e := format.Program(node(api.NProgram, "M", n)); s != "" || e != api.ErrForm {
				t.Errorf("Program = %q, %v", s, e)
			}
		}
	}
	for kind := range api.NFn + 1 {
		for _, text := range []string{"", "-", "x++", "a"} {
			ring := []api.Node{{}, {}, {}}
			for i := range ring {
				ring[i] = node(kind, text, ring...)
			}
			if s, e := format.Expr(ring[0]); kind != api.NNone && (s != "" || e != api.ErrForm) {
				t.Errorf("the ring of the kind %d has the text %q, %v", kind, s, e)
			}
		}
	}
	wide := node(api.NBlock, "")
	wide.Kids = make([]api.Node, 1<<20)
	hasWide := node(api.NProgram, "M", node(api.NFn, "f", node(api.NFnSig, "f", api.Node{}), wide))
	if s, e := format.Program(hasWide); s != "" || e != api.ErrForm {
		t.Errorf("Program of many nodes that are missing = %q, %v", s, e)
	}
}

// P7.1: many parameters that share one type, each of which is written with it.
func TestManyParameters(t *testing.T) {
	text := "implement M;f(" + strings.Repeat("a,", 5000) + "a:int){}"
	want := "implement M;\nf(" + strings.Repeat("a: int, ", 5000) + "a: int) {}\n"
	isText(t, text, want)
	text = strings.Replace(text, "int", "array of array of int", 1)
	if s, f := format.Text(text); s != "" || f != (api.Fault{Code: api.ErrLimit}) {
		t.Errorf("Text has %d bytes, %v", len(s), f)
	}
}
