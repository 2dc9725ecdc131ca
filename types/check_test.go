package types_test

import (
	"slices"
	"strconv"
	"strings"
	"testing"

	"acheron/api"
	"acheron/types"
)

func checks(t *testing.T, l []api.Type, want api.Errno) {
	t.Helper()
	if e := types.Check(l); e != want {
		t.Errorf("Check of %s: %v, want %v", show(l), e, want)
	}
}

// P8.1: tables that are right.
func TestRightTables(t *testing.T) {
	for _, text := range []string{
		"",
		"void, byte, int, big, real, string, nil",
		"int, array 0, list 0, chan 0, array 1, list 4, chan 5",
		"int, ref 2, adt Node value:0 next:1",
		"adt A a:1, int, ref 0, ref 0",
		"int, string, adt Shape id:0 | Dot | Label text:1 size:0, ref 2, ref.Label 2, ref.Dot 2, nil",
		"adt A | B, ref 0, ref.B 0",
		"int, adt A | B a:0 b:0 | C a:0 b:0",        // arms may have fields with the same names
		"int, adt A A:0 | B C:0 | C B:0",            // an arm may have the name of a field, and of the adt
		"tuple 1 1, int",                            // parts may come later
		"tuple 1 2, int, tuple 1 1",                 // and have parts
		"void, int, fn 0, fn 1, fn 1 0, fn 1 1 1 1", // no parameters; a result, or none
		"int, fn 0, module M, module M f:1, module M f:1 g:1",
		"int, module M f:2, fn 0, array 1, ref 5, adt A m:1",
		"adt while array:1 _:1 a_9Z:1, int", // any name, a keyword too
		"adt A a:1, ref 0, list 1, adt B b:2 a:0",
		"ref 1, adt A b:2, list 0",             // itself behind a reference
		"ref 1, adt A | B b:2, array 0",        // likewise in an arm
		"fn 1, ref 2, adt A m:3, module M f:0", // likewise behind a module
	} {
		checks(t, table(text), api.OK)
	}
}

// P8.1, 1 and 2: each error of a type by itself.
func TestFormsOfTypes(t *testing.T) {
	for _, x := range []struct {
		text string
		want api.Errno
	}{
		{"list", api.ErrShape}, {"list 0 0", api.ErrShape}, {"array", api.ErrShape}, {"array 0 0", api.ErrShape},
		{"chan", api.ErrShape}, {"chan 0 0", api.ErrShape}, {"ref", api.ErrShape}, {"ref 0 0", api.ErrShape},
		{"tuple", api.ErrShape}, {"tuple 0", api.ErrShape}, {"fn", api.ErrShape}, {"adt A", api.ErrShape},
		{"adt A 0", api.ErrShape}, {"adt A 0 a:0", api.ErrShape}, {"adt A 0 | B", api.ErrShape}, {"module M 0", api.ErrShape}, {"module M 0 f:0", api.ErrShape},
		{"void 0", api.ErrShape}, {"byte 0", api.ErrShape}, {"int 0", api.ErrShape}, {"big 0", api.ErrShape},
		{"real 0", api.ErrShape}, {"string 0", api.ErrShape}, {"nil 0", api.ErrShape},
		{"void a:0", api.ErrShape}, {"int a:0", api.ErrShape}, {"string a:0", api.ErrShape}, {"nil a:0", api.ErrShape},
		{"array 0 a:0", api.ErrShape}, {"list 0 a:0", api.ErrShape}, {"chan 0 a:0", api.ErrShape}, {"ref 0 a:0", api.ErrShape},
		{"tuple 0 0 a:0", api.ErrShape}, {"fn 0 a:0", api.ErrShape},
		{"void | A", api.ErrShape}, {"int | A", api.ErrShape}, {"nil | A", api.ErrShape}, {"array 0 | A", api.ErrShape},
		{"ref 0 | A", api.ErrShape}, {"tuple 0 0 | A", api.ErrShape}, {"fn 0 | A", api.ErrShape}, {"module M | A", api.ErrShape},
		{"module M f:0 | A", api.ErrShape},

		{"array 1", api.ErrRange}, {"array -1", api.ErrRange}, {"int, tuple 0 2", api.ErrRange}, {"int, fn 2 0", api.ErrRange},
		{"adt A a:1", api.ErrRange}, {"adt A a:-1", api.ErrRange}, {"int, adt A a:0 | B b:0 c:2", api.ErrRange}, {"module M f:1", api.ErrRange},
		{"ref 5", api.ErrRange},

		{"int, adt  a:0", api.ErrName}, {"module", api.ErrName}, {"adt 9A a:1, int", api.ErrName}, {"adt A-b a:1, int", api.ErrName},
		{"module A. f:0", api.ErrName}, {"adt é a:1, int", api.ErrName}, {"int x", api.ErrName}, {"void x", api.ErrName},
		{"nil x", api.ErrName}, {"string x", api.ErrName}, {"int, array x 0", api.ErrName}, {"int, list x 0", api.ErrName},
		{"int, chan x 0", api.ErrName}, {"int, tuple x 0 0", api.ErrName}, {"int, fn x 0", api.ErrName},
		{"ref.9 1, adt A a:0", api.ErrName}, {"ref.a-b 1, adt A a:0", api.ErrName},
		{"int, adt A 9:0", api.ErrName}, {"int, adt A :0", api.ErrName}, {"int, adt A a:0 a-b:0", api.ErrName},
		{"int, adt A a:0 | 9", api.ErrName}, {"int, adt A a:0 | B | a-b", api.ErrName}, {"int, adt A | B -:0", api.ErrName},
		{"int, adt A | B | C b:0 :0", api.ErrName}, {"fn 1, int, module M :0", api.ErrName}, {"fn 1, int, module M f:0 @:0", api.ErrName},

		{"int, adt A a:0 a:0", api.ErrTwice}, {"int, adt A a:0 b:0 a:0", api.ErrTwice}, {"int, adt A a:0 | B b:0 b:0", api.ErrTwice},
		{"int, adt A a:0 | B a:0", api.ErrTwice}, {"int, adt A a:0 b:0 | B c:0 | C c:0 b:0", api.ErrTwice},
		{"int, adt A | B | B", api.ErrTwice}, {"int, adt A | B | C | B c:0", api.ErrTwice}, {"int, fn 0, module M f:1 f:1", api.ErrTwice},
	} {
		checks(t, table(x.text), x.want)
	}
	for _, kind := range []int{-1, api.TNil + 1, 1 << 40, -1 << 63} {
		checks(t, []api.Type{{}, {Kind: kind}}, api.ErrKind)
	}
}

// P8.1, 3: types that stand where they must not.
func TestUses(t *testing.T) {
	const pick = ", adt P a:0 | A | B b:0"
	for _, x := range []struct {
		text string
		want api.Errno
	}{
		{"int, void, array 1", api.ErrType}, {"int, void, list 1", api.ErrType}, {"int, void, chan 1", api.ErrType},
		{"int, nil, array 1", api.ErrType}, {"int, fn 0, list 1", api.ErrType}, {"int, fn 0, chan 1", api.ErrType},
		{"int" + pick + ", array 1", api.ErrType}, {"int" + pick + ", list 1", api.ErrType}, {"int" + pick + ", chan 1", api.ErrType},
		{"int" + pick + ", tuple 0 1", api.ErrType}, {"int, void, tuple 0 1", api.ErrType}, {"int, void, tuple 1 0", api.ErrType},
		{"int, nil, tuple 0 1", api.ErrType}, {"int, fn 0, tuple 0 1", api.ErrType},
		{"int, void, fn 1 0", api.ErrType}, {"int, void, fn 0 1 0", api.ErrType}, {"int, nil, fn 1 0", api.ErrType},
		{"int" + pick + ", fn 1 0", api.ErrType}, {"int, fn 0, fn 1 0", api.ErrType},
		{"int" + pick + ", fn 0 1", api.ErrType}, {"int, nil, fn 1", api.ErrType}, {"int, fn 0, fn 1", api.ErrType},
		{"int, void, adt A a:1", api.ErrType}, {"int, nil, adt A a:0 b:1", api.ErrType}, {"int, fn 0, adt A a:1", api.ErrType},
		{"int" + pick + ", adt A a:1", api.ErrType}, {"int, void, adt A a:0 | B b:1", api.ErrType}, {"int" + pick + ", adt A | B | C b:1", api.ErrType},
		{"int, ref 0", api.ErrType}, {"ref 0", api.ErrType}, {"int, tuple 0 0, ref 1", api.ErrType}, {"module M, ref 0", api.ErrType},
		{"int, ref.A 0", api.ErrType}, {"int, list 0, ref 1", api.ErrType},
		{"int, module M f:0", api.ErrType}, {"module M f:0", api.ErrType}, {"void, fn 0, module M f:1 v:0", api.ErrType},

		{"int, adt A a:0, ref.a 1", api.ErrNone}, {"int" + pick + ", ref.P 1", api.ErrNone}, {"int" + pick + ", ref.b 1", api.ErrNone},
		{"int" + pick + ", ref.a 1", api.ErrNone}, {"int" + pick + ", ref.A 1, ref.C 1", api.ErrNone},
		{"int" + pick + ", ref.A 1, ref.B 1, ref 1", api.OK},
	} {
		checks(t, table(x.text), x.want)
	}
}

// P8.1, 4: types that come back to themselves.
func TestOrder(t *testing.T) {
	for _, x := range []struct {
		text string
		want api.Errno
	}{
		{"array 0", api.ErrOrder}, {"list 0", api.ErrOrder}, {"chan 0", api.ErrOrder}, {"int, tuple 0 1", api.ErrOrder}, {"tuple 0 0", api.ErrOrder},
		{"adt A a:0", api.ErrOrder}, {"adt A a:1, list 0", api.ErrOrder}, {"int, adt A a:0 b:2, tuple 0 3, array 1", api.ErrOrder},
		{"fn 1, module M f:0", api.ErrOrder}, {"void, fn 2 0, module M f:1", api.ErrOrder}, {"fn 1, list 2, module M f:0", api.ErrOrder},
		{"list 1, list 2, list 0", api.ErrOrder}, {"int, list 2, list 3, list 2", api.ErrOrder},
		{"ref 1, adt A a:0 b:2, list 2", api.ErrOrder}, // another one than that behind the reference
		{"ref 1, adt A a:0", api.OK}, {"ref 1, adt A a:2, list 0", api.OK}, {"ref.B 1, adt A | B b:0", api.OK},
		{"ref 1, adt A a:2, ref 3, adt B a:0", api.OK}, {"adt A a:1, tuple 2 2, array 3, ref 0", api.OK},
		{"ref 1, adt A a:2 b:2 c:3, int, list 2, adt B a:0 b:0", api.OK}, // parts that two types have are no way back
		{"int, list 0, list 0, tuple 1 2, tuple 1 2, tuple 3 4", api.OK},
	} {
		checks(t, table(x.text), x.want)
	}
	chain := []api.Type{{Kind: api.TInt}}
	for len(chain) < api.MaxTypes {
		chain = append(chain, api.Type{Kind: api.TList, Elems: []int{len(chain) - 1}})
	}
	checks(t, chain, api.OK)
	chain[0] = api.Type{Kind: api.TList, Elems: []int{api.MaxTypes - 1}}
	checks(t, chain, api.ErrOrder)
}

// doubles returns a table in which each type has two of the one before it.
func doubles(n int) []api.Type {
	l := table("int")
	for len(l) < n {
		l = append(l, api.Type{Kind: api.TTuple, Elems: elems(2, len(l)-1)})
	}
	return l
}

// upsideDown returns a table with its last type first.
func upsideDown(l []api.Type) []api.Type {
	l = clone(l)
	slices.Reverse(l)
	for i := range l {
		for part := range partsOf(&l[i]) {
			*part = len(l) - 1 - *part
		}
	}
	return l
}

// P8.1, 1, 2 and 5: what is just within a limit, and what is just beyond it.
func TestLimits(t *testing.T) {
	checks(t, make([]api.Type, api.MaxTypes), api.OK)
	checks(t, make([]api.Type, api.MaxTypes+1), api.ErrLimit)
	checks(t, []api.Type{{Kind: api.TAdt, Name: strings.Repeat("A", api.MaxName), Fields: fields(1, 1)}, {Kind: api.TInt}}, api.OK)
	checks(t, []api.Type{{Kind: api.TAdt, Name: strings.Repeat("A", api.MaxName+1), Fields: fields(1, 1)}, {Kind: api.TInt}}, api.ErrName)

	arms := func(n int) (l []api.PArm) {
		for i := range n {
			l = append(l, api.PArm{Name: "A" + strconv.Itoa(i)})
		}
		return l
	}
	many, most := api.MaxSlots+1, api.MaxSlots
	for _, x := range []struct {
		what api.Type
		want api.Errno
	}{
		{api.Type{Kind: api.TTuple, Elems: elems(most, 0)}, api.OK},
		{api.Type{Kind: api.TTuple, Elems: elems(many, 0)}, api.ErrLimit},
		{api.Type{Kind: api.TFn, Elems: elems(most, 0)}, api.OK},
		{api.Type{Kind: api.TFn, Elems: elems(many, 0)}, api.ErrLimit},
		{api.Type{Kind: api.TAdt, Name: "A", Fields: fields(most, 0)}, api.OK},
		{api.Type{Kind: api.TAdt, Name: "A", Fields: fields(many, 0)}, api.ErrLimit},
		{api.Type{Kind: api.TModule, Name: "M", Fields: fields(most, 1)}, api.OK},
		{api.Type{Kind: api.TModule, Name: "M", Fields: fields(many, 1)}, api.ErrLimit},
		{api.Type{Kind: api.TAdt, Name: "A", Arms: arms(most)}, api.OK},
		{api.Type{Kind: api.TAdt, Name: "A", Arms: arms(many)}, api.ErrLimit},
		{api.Type{Kind: api.TAdt, Name: "A", Arms: []api.PArm{{Name: "B"}, {Name: "C", Fields: fields(most-1, 0)}}}, api.OK},
		{api.Type{Kind: api.TAdt, Name: "A", Arms: []api.PArm{{Name: "B"}, {Name: "C", Fields: fields(most, 0)}}}, api.ErrLimit},
		{api.Type{Kind: api.TAdt, Name: "A", Arms: []api.PArm{{Name: "B"}, {Name: "C", Fields: fields(many, 0)}}}, api.ErrLimit},
		{api.Type{Kind: api.TAdt, Name: "A", Fields: fields(most-1, 0), Arms: arms(1)}, api.OK}, // with the slot of the index
		{api.Type{Kind: api.TAdt, Name: "A", Fields: fields(most, 0), Arms: arms(1)}, api.ErrLimit},
		{api.Type{Kind: api.TAdt, Name: "A", Fields: fields(most-2, 0), Arms: []api.PArm{{Name: "B"}, {Name: "C", Fields: table("adt A b:0")[0].Fields}}}, api.OK},
		{api.Type{Kind: api.TAdt, Name: "A", Fields: fields(most-2, 0), Arms: []api.PArm{{Name: "B", Fields: table("adt A b:0 c:0")[0].Fields}, {Name: "C"}}}, api.ErrLimit},
	} {
		checks(t, append(table("int, fn 0"), x.what), x.want)
	}
	// Too many slots of parts that have many, up to far more than a number can count.
	double := doubles(api.MaxTypes)
	checks(t, double[:9], api.OK)
	checks(t, double[:10], api.ErrLimit)
	checks(t, double, api.ErrLimit)
	checks(t, upsideDown(double[:9]), api.OK)
	checks(t, upsideDown(double[:10]), api.ErrLimit)
	checks(t, upsideDown(double), api.ErrLimit)
	// What is behind an array, a list, a channel, a reference or a function is not counted.
	checks(t, append(double[:9:9], table("array 8, list 8, chan 8, fn 8 8 8, tuple 9 10 11, ref 15, adt A a:8")...), api.OK)
	checks(t, append(double[:9:9], table("array 8, tuple 8 9")...), api.ErrLimit)
}

// P8.1: the first error of all, and of one type, and the steps one behind the other.
func TestFirstError(t *testing.T) {
	long := strings.Repeat("x", api.MaxName+1)
	wide := api.MaxSlots + 1
	// Each of these types has the errors of all those behind it, as far as one can have them at once.
	forms := []struct {
		what api.Type
		want api.Errno
	}{
		{api.Type{Kind: 15, Name: long, Elems: elems(wide, -1)}, api.ErrKind},
		{api.Type{Kind: api.TInt, Name: long, Fields: fields(wide, -1)}, api.ErrShape},
		{api.Type{Kind: api.TAdt, Elems: elems(1, 0), Name: long, Fields: fields(wide, -1)}, api.ErrShape},
		{api.Type{Kind: api.TAdt, Name: long, Fields: append(fields(wide, -1), fields(1, 0)...)}, api.ErrLimit},
		{api.Type{Kind: api.TAdt, Name: long, Fields: append(fields(1, 0), fields(1, -1)...)}, api.ErrRange},
		{api.Type{Kind: api.TAdt, Name: "A", Fields: table("adt A a:0 a:0 9:0")[0].Fields, Arms: []api.PArm{{Fields: fields(1, -1)}}}, api.ErrRange},
		{api.Type{Kind: api.TAdt, Name: long, Fields: append(fields(1, 0), fields(1, 0)...)}, api.ErrName},
		{api.Type{Kind: api.TAdt, Name: "A", Fields: append(fields(1, 0), fields(1, 0)...), Arms: []api.PArm{{}}}, api.ErrName},
		{api.Type{Kind: api.TAdt, Name: "A", Fields: append(fields(1, 0), fields(1, 0)...)}, api.ErrTwice},
		{api.Type{Kind: api.TArray, Elems: elems(1, 1)}, api.ErrType}, // in the tables below, type 1 is void
	}
	for i, x := range forms {
		checks(t, append(table("int, void"), x.what), x.want)
		for _, y := range forms[:i] { // the first type with an error decides, if it has one by itself
			want := x.want
			if want == api.ErrType {
				want = y.want
			}
			checks(t, append(table("int, void"), x.what, y.what), want)
		}
	}
	for _, x := range []struct {
		text string
		want api.Errno
	}{
		{"array 0, void, list 1, int x", api.ErrName},
		{"array 0, void, list 1", api.ErrType},
		{"int, ref.B 2, adt A a:0, void, list 3", api.ErrNone},
		{"int, void, list 1, ref.B 4, adt A a:0", api.ErrType},
		{"array 0, void, list 2", api.ErrOrder},
		{"void, array 1, nil, tuple 1 2", api.ErrType},
		{"array 0, int, adt A a:1, ref.B 2", api.ErrNone},
	} {
		checks(t, table(x.text), x.want)
	}
	large := slices.Concat(table("int"), []api.Type{{Kind: api.TTuple, Elems: elems(api.MaxSlots, 0)}}, table("tuple 1 1"))
	checks(t, large, api.ErrLimit)
	checks(t, append(large, table("list 3")...), api.ErrOrder)
	checks(t, append(large, table("void, list 3")...), api.ErrType)
	checks(t, append(large, table("list x 3")...), api.ErrName)
	checks(t, append(make([]api.Type, api.MaxTypes), api.Type{Kind: -1}), api.ErrLimit)
}

// P8.1: Value.
func TestValue(t *testing.T) {
	l := table("void, byte, int, big, real, string, array 2, list 2, chan 2, ref 10, adt A a:2, tuple 2 2, fn 0, module M, nil, adt P | B, ref 15, ref.B 15")
	want := "_vvvvvvvvvvv_v__vv"
	for i := range l {
		if is := types.Value(l, i); is != (want[i] == 'v') {
			t.Errorf("Value of %s = %v", show(l[i:i+1]), is)
		}
	}
	for _, i := range []int{-1, len(l), 1 << 40} {
		if types.Value(l, i) {
			t.Errorf("Value of the type %d", i)
		}
	}
	if types.Value(nil, 0) || types.Value(table("int, list 1"), 0) || types.Value(table("int, int x"), 0) {
		t.Error("Value of a table that is not right")
	}
}
