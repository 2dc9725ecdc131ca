package types_test

import (
	"testing"

	"acheron/api"
	"acheron/types"
)

// measured has types of many sizes.
const measured = "void, byte, int, big, real, string, nil, fn 2, module M f:7, array 12, list 12, chan 12," +
	" tuple 2 5 2, ref 14, adt A a:2 b:12 c:5, ref.X 16, adt P p:12 | X x:14 y:2 | Y | Z x:15, tuple 14 2 12, adt Q | X x:2, module E, adt R m:8 r:15 t:17"

// P8.4: Size.
func TestSize(t *testing.T) {
	l := table(measured)
	for i, want := range []int{0, 1, 1, 1, 1, 1, 0, 0, 1, 1, 1, 1, 3, 1, 5, 1, 4, 9, 1, 1, 11} {
		if n, e := types.Size(l, i); n != want || e != api.OK {
			t.Errorf("Size of %s = %d, %v, want %d", show(l[i:i+1]), n, e, want)
		}
	}
}

// P8.4: Field.
func TestField(t *testing.T) {
	l := table(measured)
	for _, x := range []struct {
		t    int
		arm  string
		k    int
		want types.Place
		e    api.Errno
	}{
		{12, "", 0, types.Place{At: 0, Size: 1, Type: 2}, api.OK}, {12, "", 1, types.Place{At: 1, Size: 1, Type: 5}, api.OK}, {12, "", 2, types.Place{At: 2, Size: 1, Type: 2}, api.OK},
		{12, "", 3, types.Place{}, api.ErrRange}, {12, "", -1, types.Place{}, api.ErrRange}, {12, "X", 0, types.Place{}, api.ErrNone}, {12, "X", 3, types.Place{}, api.ErrNone},
		{14, "", 0, types.Place{At: 0, Size: 1, Type: 2}, api.OK}, {14, "", 1, types.Place{At: 1, Size: 3, Type: 12}, api.OK}, {14, "", 2, types.Place{At: 4, Size: 1, Type: 5}, api.OK},
		{14, "", 3, types.Place{}, api.ErrRange}, {14, "X", 0, types.Place{}, api.ErrNone}, {14, "a", 0, types.Place{}, api.ErrNone},
		{16, "", 0, types.Place{At: 1, Size: 3, Type: 12}, api.OK}, {16, "", 1, types.Place{}, api.ErrRange},
		{16, "X", 0, types.Place{At: 1, Size: 3, Type: 12}, api.OK}, {16, "X", 1, types.Place{At: 4, Size: 5, Type: 14}, api.OK}, {16, "X", 2, types.Place{At: 9, Size: 1, Type: 2}, api.OK},
		{16, "X", 3, types.Place{}, api.ErrRange}, {16, "X", 1 << 40, types.Place{}, api.ErrRange}, {16, "X", -1 << 63, types.Place{}, api.ErrRange},
		{16, "Y", 0, types.Place{At: 1, Size: 3, Type: 12}, api.OK}, {16, "Y", 1, types.Place{}, api.ErrRange}, {16, "Z", 1, types.Place{At: 4, Size: 1, Type: 15}, api.OK},
		{16, "W", 0, types.Place{}, api.ErrNone}, {16, "W", -1, types.Place{}, api.ErrNone}, {16, "p", 0, types.Place{}, api.ErrNone},
		{17, "", 0, types.Place{At: 0, Size: 5, Type: 14}, api.OK}, {17, "", 1, types.Place{At: 5, Size: 1, Type: 2}, api.OK}, {17, "", 2, types.Place{At: 6, Size: 3, Type: 12}, api.OK},
		{18, "", 0, types.Place{}, api.ErrRange}, {18, "X", 0, types.Place{At: 1, Size: 1, Type: 2}, api.OK},
		{20, "", 2, types.Place{At: 2, Size: 9, Type: 17}, api.OK},
		{2, "", 0, types.Place{}, api.ErrKind}, {2, "X", -1, types.Place{}, api.ErrKind}, {9, "", 0, types.Place{}, api.ErrKind}, {7, "", 0, types.Place{}, api.ErrKind},
		{8, "", 0, types.Place{}, api.ErrKind}, {13, "", 0, types.Place{}, api.ErrKind}, {15, "X", 0, types.Place{}, api.ErrKind}, {0, "", 0, types.Place{}, api.ErrKind},
		{-1, "", 0, types.Place{}, api.ErrRange}, {21, "", 0, types.Place{}, api.ErrRange},
	} {
		if p, e := types.Field(l, x.t, x.arm, x.k); p != x.want || e != x.e {
			t.Errorf("Field(%d, %q, %d) = %v, %v, want %v, %v", x.t, x.arm, x.k, p, e, x.want, x.e)
		}
	}
}

// P8.4: Find.
func TestFind(t *testing.T) {
	l := table(measured)
	for _, x := range []struct {
		t         int
		arm, name string
		want      int
		found     bool
	}{
		{14, "", "a", 0, true}, {14, "", "b", 1, true}, {14, "", "c", 2, true}, {14, "", "A", 0, false}, {14, "", "", 0, false}, {14, "a", "a", 0, false},
		{16, "", "p", 0, true}, {16, "", "x", 0, false}, {16, "X", "p", 0, true}, {16, "X", "x", 1, true}, {16, "X", "y", 2, true}, {16, "X", "X", 0, false},
		{16, "Y", "p", 0, true}, {16, "Y", "x", 0, false}, {16, "Z", "x", 1, true}, {16, "Z", "y", 0, false}, {16, "W", "p", 0, false},
		{18, "X", "x", 0, true}, {18, "", "x", 0, false},
		{8, "", "f", 0, true}, {8, "", "g", 0, false}, {8, "f", "f", 0, false}, {19, "", "f", 0, false},
		{12, "", "a", 0, false}, {12, "", "", 0, false}, {13, "", "a", 0, false}, {15, "X", "x", 0, false}, {15, "", "p", 0, false}, {2, "", "a", 0, false}, {-1, "", "a", 0, false}, {99, "", "a", 0, false},
	} {
		if k, found := types.Find(l, x.t, x.arm, x.name); k != x.want || found != x.found {
			t.Errorf("Find(%d, %q, %q) = %d, %v", x.t, x.arm, x.name, k, found)
		}
	}
	members := table("int, fn 0, module M z:1 a:1 m:1") // in the order of the table, and not in that of the names
	for i, f := range members[2].Fields {
		if k, found := types.Find(members, 2, "", f.Name); k != i || !found {
			t.Errorf("Find of the member %s = %d, %v", f.Name, k, found)
		}
	}
}
