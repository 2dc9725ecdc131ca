package types_test

import (
	"slices"
	"strconv"
	"strings"
	"testing"

	"acheron/api"
	"acheron/types"
)

// asks asks a layout questions, one behind the other: of each a method, a type and perhaps an arm, and the result:
// slots, a descriptor, or an error.
func asks(t *testing.T, x *types.Layout, questions ...string) {
	t.Helper()
	for _, q := range questions {
		question, want, _ := strings.Cut(q, " = ")
		words := append(strings.Fields(question), "")
		a, _ := strconv.Atoi(words[1])
		var got string
		var n int
		var e api.Errno
		switch words[0] {
		case "slots":
			var l []api.Slot
			l, e = x.Slots(a)
			got = showSlots(l)
		case "elem":
			n, e = x.Elem(a)
			got = strconv.Itoa(n)
		case "record":
			n, e = x.Record(a, words[2])
			got = strconv.Itoa(n)
		}
		if e != api.OK {
			if n != 0 || strings.ContainsAny(got, "nsalcrm") {
				t.Errorf("%s: %s with the error %v", question, got, e)
			}
			got = "error " + e.Error()
		}
		if got != want {
			t.Errorf("%s = %s, want %s", question, got, want)
		}
	}
}

// has fails unless a layout has descriptors and modules.
func has(t *testing.T, x *types.Layout, descs string, modules ...int) {
	t.Helper()
	if got := showDescs(x.Descs()); got != descs || !slices.Equal(x.Modules(), modules) {
		t.Errorf("the descriptors are %q, the modules %v, want %q, %v", got, x.Modules(), descs, modules)
	}
}

const (
	errRange = "error 11"
	errType  = "error 7"
	errKind  = "error 13"
	errNone  = "error 4"
)

// P8.5: the examples of the document, and what each kind has.
func TestLayout(t *testing.T) {
	x := layout(t, table("int, string, adt Shape id:0 | Dot | Label text:1 size:0, ref 2, ref.Label 2, nil"))
	has(t, x, "")
	asks(t, x, "slots 4 = rec1")
	has(t, x, ", num num str num")
	asks(t, x, "record 2 = 2", "elem 0 = 3", "elem 0 = 3", "elem 2 = "+errType, "slots 2 = "+errType, "record 2 Label = 1", "slots 3 = rec2", "record 2 Dot = 4", "elem 3 = 5", "elem 4 = 6")
	has(t, x, ", num num str num, num num, num, num num, rec2, rec1")

	x = layout(t, table("int, ref 2, adt Node value:0 next:1"))
	asks(t, x, "elem 1 = 1")
	has(t, x, ", rec2, num rec2")
	asks(t, x, "record 2 = 2", "elem 2 = 3", "slots 2 = num rec2", "slots 1 = rec2")
	has(t, x, ", rec2, num rec2, num rec2") // a value and a record have descriptors of their own

	x = layout(t, table("byte, int, big, real, string, tuple 0 1 2 3 4, adt A a:5 b:0"))
	asks(t, x, "slots 0 = num", "slots 1 = num", "slots 2 = num", "slots 3 = num", "slots 4 = str", "slots 5 = num num num num str", "slots 6 = num num num num str num")
	has(t, x, "")
	asks(t, x, "elem 6 = 1", "record 6 = 2", "elem 0 = 3", "elem 1 = 4", "elem 4 = 5")
	has(t, x, ", num num num num str num, num num num num str num, num, num, str")
}

// P8.5: the order in which numbers are given, and who shares them.
func TestOrderOfDescriptors(t *testing.T) {
	x := layout(t, table("int, array 0, list 1, chan 2, tuple 3 1 5, string, list 5, list 1"))
	asks(t, x, "slots 4 = chan1 arr3 str") // one inside of another one comes before what is behind
	has(t, x, ", list2, arr3, num")
	asks(t, x, "slots 6 = list4", "slots 7 = list2", "elem 7 = 1", "elem 2 = 1")
	has(t, x, ", list2, arr3, num, str")

	x = layout(t, table("int, list 0, list 1, list 2, adt A a:3 b:1, ref 4, adt B a:7 b:8, list 2, list 0, ref 6"))
	asks(t, x, "slots 9 = rec1")
	has(t, x, ", list2 list4, list3, list4, num")
	asks(t, x, "slots 5 = rec1", "record 4 = 1", "record 6 = 1", "elem 4 = 5", "elem 6 = 5") // equal types share them
	has(t, x, ", list2 list4, list3, list4, num, list2 list4")

	x = layout(t, table("int, adt P a:0 | A b:0 | B b:0, adt Q a:0 | A b:0 | B b:0, ref.A 1, ref.B 2, ref 2, ref.A 2"))
	asks(t, x, "slots 6 = rec1", "slots 3 = rec1", "slots 4 = rec2", "slots 5 = rec3", "record 1 B = 2", "record 2 A = 1", "record 1 = 3")
	has(t, x, ", num num num, num num num, num num")

	x = layout(t, table("ref 1, adt A b:2 c:3, list 0, array 2")) // itself, as an element and as a record
	asks(t, x, "elem 1 = 1")
	has(t, x, ", list2 arr4, rec3, list2 arr4, list2")
}

// P8.5: modules.
func TestModules(t *testing.T) {
	x := layout(t, table("void, int, fn 0, fn 1, module M f:2 g:3, module N g:3 f:2, module O f:2, module P, list 5, adt A m:6 n:4 o:5"))
	asks(t, x, "slots 7 = mod")
	has(t, x, "", 7)
	asks(t, x, "slots 8 = list1")
	has(t, x, ", mod1", 7, 5)
	asks(t, x, "slots 4 = mod1", "slots 9 = mod2 mod1 mod1", "slots 7 = mod", "elem 4 = 1", "elem 6 = 2", "record 9 = 3")
	has(t, x, ", mod1, mod2, mod2 mod1 mod1", 7, 5, 6)

	x = layout(t, table("int, int, int, fn 0 1, fn 2, module M f:3 g:4, module M f:3 g:3"))
	asks(t, x, "slots 5 = mod", "slots 6 = mod1", "elem 6 = 1", "elem 5 = 2")
	has(t, x, ", mod1, mod", 5, 6)
}

// P8.5: errors, and that they change nothing.
func TestErrorsOfLayouts(t *testing.T) {
	x := layout(t, table("void, int, fn 0, nil, adt P | A, list 1, tuple 1 1, module M"))
	asks(t, x, "slots -1 = "+errRange, "slots 8 = "+errRange, "elem -1 = "+errRange, "elem 8 = "+errRange, "record -1 = "+errRange, "record 8 A = "+errRange,
		"slots 0 = "+errType, "slots 2 = "+errType, "slots 3 = "+errType, "slots 4 = "+errType,
		"elem 0 = "+errType, "elem 2 = "+errType, "elem 3 = "+errType, "elem 4 = "+errType,
		"record 0 = "+errKind, "record 1 = "+errKind, "record 5 A = "+errKind, "record 6 = "+errKind, "record 7 = "+errKind, "record 4 B = "+errNone, "record 4 P = "+errNone)
	has(t, x, "")
	asks(t, x, "record 4 A = 1", "record 4 = 2")
	has(t, x, ", num, num")
	asks(t, layout(t, nil), "slots 0 = "+errRange, "elem 0 = "+errRange, "record 0 = "+errRange)
	asks(t, layout(t, table("int, adt A a:0")), "record 1 a = "+errNone, "record 1 A = "+errNone, "record 1 = 1")

	var none *types.Layout
	asks(t, none, "slots 0 = error 1", "slots -1 = error 1", "elem 0 = error 1", "record 0 = error 1", "record -1 A = error 1")
	if none.Descs() != nil || none.Modules() != nil {
		t.Error("a nil layout has something")
	}
	if x, e := types.NewLayout(table("int, list 1")); x != nil || e != api.ErrOrder {
		t.Errorf("NewLayout of a wrong table: %v", e)
	}
}

// P8.5: as many descriptors as there may be, and one more.
func TestFullLayout(t *testing.T) {
	l := table("void, fn 0, module M f:1, module N, string, byte, list 5, list 6, tuple 7 3, tuple 3 2 7, tuple 3 8 5")
	picks := len(l)
	for i := range 4 {
		pick := api.Type{Kind: api.TAdt, Name: "P", Fields: []api.Field{{Name: "a" + strconv.Itoa(i), Type: 4}}}
		for k := range api.MaxSlots {
			pick.Arms = append(pick.Arms, api.PArm{Name: "A" + strconv.Itoa(k)})
		}
		l = append(l, pick)
	}
	x := layout(t, l)
	fill := func(from, to int) { // the descriptors from one on up to, and not with, another one
		for n := from; n < to; n++ {
			if got, e := x.Record(picks+(n-1)/api.MaxSlots, "A"+strconv.Itoa((n-1)%api.MaxSlots)); got != n || e != api.OK {
				t.Fatalf("Record %d = %d, %v", n, got, e)
			}
		}
	}
	const limit = "error 3"
	fill(1, api.MaxDescs-1) // room for one more
	before := showDescs(x.Descs())
	for range 2 {
		asks(t, x, "slots 7 = "+limit, "elem 7 = "+limit, "elem 6 = "+limit, "slots 8 = "+limit, "elem 10 = "+limit, "slots 9 = "+limit, "elem -1 = "+errRange, "elem 0 = "+errType, "record 4 = "+errKind, "record 11 B = "+errNone)
		has(t, x, before) // the modules of what failed have no numbers either
	}
	asks(t, x, "slots 3 = mod", "slots 9 = "+limit, "slots 2 = mod1", "slots 6 = list1023")
	has(t, x, before+", num", 3, 2)
	asks(t, x, "elem 5 = 1023", "elem 6 = "+limit, "slots 7 = "+limit, "elem 4 = "+limit, "slots 4 = str", "record 11 A0 = 1", "record 11 = "+limit, "slots 6 = list1023")
	has(t, x, before+", num", 3, 2)

	x = layout(t, l)
	fill(1, api.MaxDescs-2) // room for two more
	asks(t, x, "elem 7 = "+limit, "slots 10 = mod list1022 mod num", "elem 6 = 1022", "elem 5 = 1023", "elem 3 = "+limit)
}
