package types_test

import (
	"strconv"
	"strings"
	"testing"

	"acheron/api"
	"acheron/digest"
	"acheron/types"
)

// P8.3: texts of types, and their digests.
func TestText(t *testing.T) {
	const node = "int, ref 2, adt Node value:0 next:1"
	const shape = "int, string, adt Shape id:0 | Dot | Label text:1 size:0, ref 2, ref.Label 2, nil"
	for _, x := range []struct {
		text string
		t    int
		want string
	}{
		{"void", 0, "void"}, {"byte", 0, "byte"}, {"int", 0, "int"}, {"big", 0, "big"}, {"real", 0, "real"}, {"string", 0, "string"}, {"nil", 0, "nil"},
		{"int, array 0", 1, "array(int)"}, {"int, list 0", 1, "list(int)"}, {"int, chan 0", 1, "chan(int)"}, {"int, list 0, array 1", 2, "array(list(int))"},
		{node, 1, "ref(adt{value:int;next:#0})"}, {node, 2, "adt{value:int;next:ref(#0)}"},
		{shape, 2, "adt{id:int|Dot{}|Label{text:string;size:int}}"}, {shape, 3, "ref(adt{id:int|Dot{}|Label{text:string;size:int}})"},
		{shape, 4, "ref.Label(adt{id:int|Dot{}|Label{text:string;size:int}})"}, {"adt A | B", 0, "adt{|B{}}"},
		{"int, byte, tuple 0 1", 2, "(int,byte)"}, {"int, byte, tuple 0 1 0", 2, "(int,byte,int)"}, // int has no number
		{"byte, array 0, tuple 1 1", 2, "(array(byte),#1)"}, {"byte, array 0, array 0, tuple 1 2", 3, "(array(byte),#1)"},
		{"void, fn 0", 1, "fn():void"}, {"int, fn 0", 1, "fn():int"}, {"int, byte, fn 0 1", 2, "fn(int):byte"}, {"int, byte, fn 0 1 0", 2, "fn(int,byte):int"},
		{"int, list 0, fn 1 1", 2, "fn(list(int)):#1"}, {"int, list 0, fn 1 1 1", 2, "fn(list(int),#1):#1"},
		{"void, int, fn 0, fn 1 1, module M g:2 f:3", 4, "module{f:fn(int):int;g:fn():void}"}, {"module M", 0, "module{}"},
		{"int, int, int, fn 0 1, fn 2, module M f:3 g:4", 5, "module{f:fn(int):int;g:fn():int}"},
		{"int, int, int, fn 0 1, fn 2, module M f:3 g:3", 5, "module{f:fn(int):int;g:#1}"},
		{"int, fn 0, module M f:1 g:1 e:1", 2, "module{e:fn():int;f:#1;g:#1}"},
		{"int, fn 0, module M b:1 A:1 _:1 a1:1 a:1 B:1 a_:1", 2, "module{A:fn():int;B:#1;_:#1;a:#1;a1:#1;a_:#1;b:#1}"}, // by bytes
		{"int, fn 0, module M f:1, array 2, tuple 2 2 3 3", 4, "(module{f:fn():int},#1,array(#1),#3)"},
		{"int, list 0, list 1, tuple 1 2 1 2", 3, "(list(int),list(#1),#1,#2)"},             // numbers in the order of the beginnings
		{"int, list 0, list 1, tuple 2 1 2", 3, "(list(list(int)),#2,#1)"},                  // a number inside of another one
		{"int, adt A a:0, adt B a:0, tuple 1 2 4, tuple 1 2", 3, "(adt{a:int},#1,(#1,#1))"}, // names of adts do not count
		{"int, ref 2, adt A v:0 n:3, ref 4, adt B v:0 n:1", 1, "ref(adt{v:int;n:#0})"},      // a ring of equal ones
		{"ref 1, adt A n:2, ref 3, adt B n:0 b:4, byte", 0, "ref(adt{n:ref(adt{n:#0;b:byte})})"},
		{"ref 1, adt A | B n:0 | C n:2, ref.B 1", 0, "ref(adt{|B{n:#0}|C{n:ref.B(#1)}})"},
		{"ref 1, adt A | B n:0 | C n:2, ref.B 1", 1, "adt{|B{n:ref(#0)}|C{n:ref.B(#0)}}"},
	} {
		l := table(x.text)
		s, e := types.Text(l, x.t)
		if s != x.want || e != api.OK {
			t.Errorf("Text(%s, %d) = %q, %v, want %q", x.text, x.t, s, e, x.want)
		}
		if s, e := types.Sig(l, x.t); s != digest.Hex(digest.Sum(x.want)) || e != api.OK {
			t.Errorf("Sig(%s, %d) = %q, %v", x.text, x.t, s, e)
		}
	}
	if s, _ := types.Sig(table("int"), 0); s != "6da88c34ba124c41f977db66a4fc5c1a951708d285c81bb0d47c3206f4c27ca8" {
		t.Errorf("Sig of int = %s", s)
	}
}

// P8.3: a text for which all types of a large table are told apart step by step.
func TestLongText(t *testing.T) {
	l, want := table("int"), "int"
	for len(l) < api.MaxTypes {
		l = append(l, api.Type{Kind: api.TChan, Elems: []int{len(l) - 1}})
		want = "chan(" + want + ")"
	}
	if s, e := types.Text(l, len(l)-1); s != want || e != api.OK {
		t.Errorf("Text of a long chain = %q, %v", s, e)
	}
	l = nil
	for i := range api.MaxTypes / 2 { // the ring has one adt that is not as the others are
		next := (2*i + 2) % api.MaxTypes
		l = append(l, api.Type{Kind: api.TRef, Elems: []int{2*i + 1}}, api.Type{Kind: api.TAdt, Name: "A", Fields: []api.Field{{Name: "n", Type: next}}})
	}
	if s, e := types.Text(l, 0); s != "ref(adt{n:#0})" || e != api.OK {
		t.Errorf("Text of a long ring = %q, %v", s, e)
	}
	l[len(l)-1].Name, l[len(l)-1].Fields[0].Name = "B", "m"
	want = strings.Repeat("ref(adt{n:", api.MaxTypes/2-1) + "ref(adt{m:#0" + strings.Repeat("})", api.MaxTypes/2)
	if s, e := types.Text(l, 0); s != want || e != api.OK {
		t.Errorf("Text of a long ring = %q, %v", s, e)
	}
	want = "ref(adt{m:" + strings.Repeat("ref(adt{n:", api.MaxTypes/2-1) + "#0" + strings.Repeat("})", api.MaxTypes/2)
	if s, e := types.Text(l, len(l)-2); s != want || e != api.OK {
		t.Errorf("Text of a long ring = %q, %v", s, e)
	}
	// A tuple of lists of lists: of each one that is known only its number.
	l, want = table("int, list 0"), "(list(int)"
	parts := []int{1}
	for i := 1; i < 200; i++ {
		l = append(l, api.Type{Kind: api.TList, Elems: []int{i}})
		parts = append(parts, i+1)
		want += ",list(#" + strconv.Itoa(i) + ")"
	}
	l = append(l, api.Type{Kind: api.TTuple, Elems: parts})
	if s, e := types.Text(l, 201); s != want+")" || e != api.OK {
		t.Errorf("Text of a tuple of lists = %q, %v", s, e)
	}
}

// P8.1 to P8.5: the error of the table, then that of the types.
func TestCommonErrors(t *testing.T) {
	call := func(l []api.Type, a, b int) []api.Errno {
		equal, e1 := types.Equal(l, a, b)
		fits, e2 := types.Assignable(l, a, b)
		if equal || fits {
			t.Errorf("with an error, %d and %d of %s are equal, or fit: %v, %v", a, b, show(l), equal, fits)
		}
		return []api.Errno{e1, e2}
	}
	one := func(l []api.Type, a int) []api.Errno {
		_, e1 := types.Text(l, a)
		_, e2 := types.Sig(l, a)
		_, e3 := types.Size(l, a)
		_, e4 := types.Field(l, a, "none", -1)
		_, e5 := types.Across(l, a, table("int"), 0)
		_, e6 := types.Across(table("int"), 0, l, a)
		return []api.Errno{e1, e2, e3, e4, e5, e6}
	}
	right, wrong := table("int, int"), table("int, list 1")
	for _, x := range []struct {
		l    []api.Type
		a, b int
		want api.Errno
	}{
		{right, 0, 2, api.ErrRange}, {right, 2, 0, api.ErrRange}, {right, -1, 0, api.ErrRange}, {right, 0, -1, api.ErrRange}, {right, 1 << 40, 0, api.ErrRange},
		{nil, 0, 0, api.ErrRange}, {wrong, 0, 0, api.ErrOrder}, {wrong, 0, 5, api.ErrOrder}, {wrong, -5, 0, api.ErrOrder},
	} {
		for i, e := range call(x.l, x.a, x.b) {
			if e != x.want {
				t.Errorf("function %d of %s, %d, %d: %v, want %v", i, show(x.l), x.a, x.b, e, x.want)
			}
		}
		if x.b != 0 {
			continue
		}
		for i, e := range one(x.l, x.a) {
			if e != x.want {
				t.Errorf("function %d of %s, %d: %v, want %v", i, show(x.l), x.a, e, x.want)
			}
		}
		if k, is := types.Find(x.l, x.a, "", "a"); k != 0 || is {
			t.Errorf("Find in %s, %d: %v, %v", show(x.l), x.a, k, is)
		}
	}
	if x, e := types.NewLayout(wrong); x != nil || e != api.ErrOrder {
		t.Errorf("NewLayout of %s: %v, %v", show(wrong), x, e)
	}
	if s, e := types.Text(right, 2); s != "" || e != api.ErrRange {
		t.Errorf("Text with an error: %q", s)
	}
	if s, e := types.Sig(right, 2); s != "" || e != api.ErrRange {
		t.Errorf("Sig with an error: %q", s)
	}
	if n, e := types.Size(table("int, adt A a:0"), 2); n != 0 || e != api.ErrRange {
		t.Errorf("Size with an error: %d", n)
	}
}
