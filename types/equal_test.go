package types_test

import (
	"testing"

	"acheron/api"
	"acheron/types"
)

// P8.2, P8.3: types that are equal, and types that are not, within one table: types in one group are equal.
func TestEqual(t *testing.T) {
	for _, x := range []struct {
		text, groups string // a letter for each type
	}{
		{"void, byte, int, big, real, string, nil", "abcdefg"},
		{"int, int, void, void, nil, nil, string, string", "aabbccdd"},
		{"int, array 0, list 0, chan 0, array 0, list 0, chan 0, tuple 0 0, fn 0 0", "abcdbcdef"},
		{"int, byte, list 0, list 1, list 2, list 3, list 2", "abcdefe"},
		{"int, byte, tuple 0 1, tuple 1 0, tuple 0 0, tuple 0 0 0, tuple 0 1", "abcdefc"},
		{"int, tuple 0 0, tuple 1 0, tuple 0 1, tuple 0 0 0", "abcde"}, // parts of parts
		{"void, int, fn 0, fn 1, fn 1 0, fn 1 1, fn 1 1, fn 1 1 1", "abcdeffg"},
		{"int, adt A a:0, adt B a:0, adt A b:0, adt A a:0 b:0, adt A b:0 a:0", "abbcde"}, // the adt's name does not count
		{"int, byte, adt A a:0 b:1, adt A a:1 b:0, adt A b:1 a:0", "abcde"},
		{"int, adt A a:0, adt A a:0 | B, adt A a:0 | C, adt A a:0 | B | C, adt A a:0 | C | B", "abcdef"},
		{"int, byte, adt A | B b:0, adt A | B b:0, adt A | B b:1, adt A | B c:0, adt A | B, adt A b:0, adt A b:0 | B", "abccdefgh"},
		{"int, adt A | B b:0 | C, adt A | B | C b:0", "abc"}, // a field belongs to another arm
		{"int, adt P | A | B, ref 1, ref.A 1, ref.B 1, ref 1, ref.A 1, ref 8, adt Q | A | B, ref.A 8", "abcdecdcbd"},
		{"int, fn 0, fn 0 0, module M f:1 g:2, module N g:2 f:1, module M f:2 g:1, module M f:1, module M f:1 h:2, module M, module N", "abcddefghh"},
		{"int, ref 2, adt A v:0 n:1, ref 4, adt B v:0 n:5, ref 2", "abcbcb"}, // a ring, and a way into it
		{"ref 1, adt A n:2, ref 3, adt A n:0, ref 5, adt A n:4", "ababab"},   // rings of other lengths
		{"ref 1, adt A n:2, ref 3, adt A n:0 b:4, byte", "abcde"},            // a ring of different ones
		{"ref 1, adt A | B n:0, ref 3, adt A | B n:4, ref 1, ref.B 1", "ababac"},
		{"int, ref 2, adt A v:0 n:3, list 1, ref 5, adt A v:0 n:6, chan 4", "abcdefg"}, // told apart at the end of a ring
		{"fn 1, module M f:2, fn 4, fn 5, module M g:3, module N", "abcdef"},
		{"int, int, int, fn 0 1, fn 2, module M f:3 g:4, module M f:3 g:3", "aaabcde"}, // other numbers of parameters, of types that are the most
		{"int, int, int, int, fn 0, fn 1 2, fn 3, fn 1 2 3", "aaaabcbd"},
		{"int, int, int, int, fn 0, fn 1, fn 2, fn 3 0", "aaaabbbc"}, // likewise, where most functions have no parameter
		{"int, int, int, int, fn 0 1, fn 1 2, fn 2 3, fn 3", "aaaabbbc"},
	} {
		l := table(x.text)
		for a := range l {
			for b := range l {
				want := x.groups[a] == x.groups[b]
				if is, e := types.Equal(l, a, b); is != want || e != api.OK {
					t.Errorf("%s: Equal(%d, %d) = %v, %v", x.text, a, b, is, e)
				}
				first, _ := types.Text(l, a)
				second, _ := types.Text(l, b)
				if (first == second) != want {
					t.Errorf("%s: the texts of %d and %d are %q and %q", x.text, a, b, first, second)
				}
			}
		}
	}
}

// P8.2: what can be assigned: to each type, in a row, from each type.
func TestAssignable(t *testing.T) {
	l := table("void, int, int, list 1, list 2, chan 1, array 1, nil, nil, fn 1, fn 1, module M f:9, module N f:10," +
		" adt A a:1, adt B a:2, ref 13, ref 14, adt P | X | Y y:1, adt Q | X | Y y:2, ref 17, ref.X 17, ref.Y 17, ref 18, ref.X 18, tuple 1 2, tuple 2 1")
	want := map[int][]int{
		1: {1, 2}, 2: {1, 2}, 3: {3, 4, 7, 8}, 4: {3, 4, 7, 8}, 5: {5, 7, 8}, 6: {6, 7, 8}, 11: {7, 8, 11, 12}, 12: {7, 8, 11, 12},
		13: {13, 14}, 14: {13, 14}, 15: {7, 8, 15, 16}, 16: {7, 8, 15, 16}, 19: {7, 8, 19, 20, 21, 22, 23}, 20: {7, 8, 20, 23},
		21: {7, 8, 21}, 22: {7, 8, 19, 20, 21, 22, 23}, 23: {7, 8, 20, 23}, 24: {24, 25}, 25: {24, 25},
	}
	for to := range l {
		fits := map[int]bool{}
		for _, from := range want[to] {
			fits[from] = true
		}
		for from := range l {
			if is, e := types.Assignable(l, to, from); is != fits[from] || e != api.OK {
				t.Errorf("Assignable(%d, %d) of %s from %s: %v, %v", to, from, show(l[to:to+1]), show(l[from:from+1]), is, e)
			}
		}
	}
	members := table("int, int, int, fn 0 1, fn 2, module M f:3 g:4, module M f:3 g:3") // one has a parameter, the other one has none
	for _, x := range [][2]int{{5, 6}, {6, 5}} {
		if is, e := types.Assignable(members, x[0], x[1]); is || e != api.OK {
			t.Errorf("Assignable(%d, %d) = %v, %v", x[0], x[1], is, e)
		}
	}
	other := table("int, adt P | X | Y y:0, adt Q | X, ref 1, ref.X 1, ref 2, ref.X 2") // arms of other adts
	for _, x := range []struct {
		to, from int
		want     bool
	}{{3, 4, true}, {5, 6, true}, {3, 6, false}, {5, 4, false}, {3, 5, false}, {4, 6, false}, {6, 4, false}} {
		if is, e := types.Assignable(other, x.to, x.from); is != x.want || e != api.OK {
			t.Errorf("Assignable(%d, %d) = %v, %v", x.to, x.from, is, e)
		}
	}
}

// P8.2: types of two tables.
func TestAcross(t *testing.T) {
	node := "int, ref 2, adt Node value:0 next:1"
	for _, x := range []struct {
		left  string
		a     int
		right string
		b     int
		want  bool
	}{
		{"int", 0, "int", 0, true}, {"int", 0, "byte", 0, false}, {"nil", 0, "void, nil", 1, true},
		{node, 1, "adt Other value:2 next:1, ref 0, int", 1, true}, {node, 1, "adt Other value:2 next:1, ref 0, int", 0, false},
		{node, 1, "adt Other value:2 next:1, ref 0, byte", 1, false}, {node, 1, "adt Other value:2 next:3, ref 0, int, ref 4, adt Two value:2 next:1", 1, true},
		{node, 2, "adt Other value:2 next:3, ref 0, int, ref 4, adt Two value:2 next:1", 4, true},
		{"int, fn 0, module M f:1 g:3, fn 0 0", 2, "int, fn 0 0, fn 0, module N g:1 f:2", 3, true},
		{"int, fn 0, module M f:1 g:3, fn 0 0", 2, "int, fn 0 0, fn 0, module N g:2 f:1", 3, false},
		{"int, adt P a:0 | A b:0", 1, "byte, int, adt P a:1 | A b:1", 2, true}, {"int, adt P a:0 | A b:0", 1, "byte, int, adt P a:1 | A b:0", 2, false},
		{"int, int, fn 0 1", 2, "int, fn 0", 1, false}, {"int, int, fn 0 1", 2, "int, int, fn 1 1", 2, true},
		{"int, byte, tuple 0 1", 2, "byte, int, tuple 1 0", 2, true}, {"int, byte, tuple 0 1", 2, "byte, int, tuple 0 1", 2, false},
	} {
		l, m := table(x.left), table(x.right)
		if is, e := types.Across(l, x.a, m, x.b); is != x.want || e != api.OK {
			t.Errorf("Across(%s, %d, %s, %d) = %v, %v", x.left, x.a, x.right, x.b, is, e)
		}
		if is, e := types.Across(m, x.b, l, x.a); is != x.want || e != api.OK {
			t.Errorf("Across(%s, %d, %s, %d) = %v, %v", x.right, x.b, x.left, x.a, is, e)
		}
	}
	chain := table("int")
	for len(chain) < api.MaxTypes { // two tables that have more types than one may have
		chain = append(chain, api.Type{Kind: api.TList, Elems: []int{len(chain) - 1}})
	}
	last := len(chain) - 1
	if is, e := types.Across(chain, last, chain, last); !is || e != api.OK {
		t.Errorf("Across of long tables: %v, %v", is, e)
	}
	if is, e := types.Across(chain, last, chain, last-1); is || e != api.OK {
		t.Errorf("Across of long tables: %v, %v", is, e)
	}
}

// P8.2: the first error of Across.
func TestErrorsAcross(t *testing.T) {
	right, order, named := table("int"), table("list 0"), table("int x")
	for _, x := range []struct {
		l    []api.Type
		a    int
		m    []api.Type
		b    int
		want api.Errno
	}{
		{order, 0, named, 0, api.ErrOrder}, {named, 0, order, 0, api.ErrName}, {right, 0, order, 0, api.ErrOrder}, {order, 0, right, 0, api.ErrOrder},
		{order, 1, right, 1, api.ErrOrder}, {right, 1, order, 1, api.ErrOrder}, {right, 1, right, 0, api.ErrRange}, {right, 0, right, 1, api.ErrRange},
		{right, -1, right, 0, api.ErrRange}, {right, 0, right, -1, api.ErrRange}, {nil, 0, right, 0, api.ErrRange}, {right, 0, nil, 0, api.ErrRange},
		{right, 0, right, 0, api.OK},
	} {
		if is, e := types.Across(x.l, x.a, x.m, x.b); is != (x.want == api.OK) || e != x.want {
			t.Errorf("Across(%s, %d, %s, %d) = %v, %v, want %v", show(x.l), x.a, show(x.m), x.b, is, e, x.want)
		}
	}
}
