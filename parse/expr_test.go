package parse_test

import (
	"strconv"
	"strings"
	"testing"

	"acheron/parse"
)

// P6.1: what stands alone.
func TestPrimaries(t *testing.T) {
	hasExprs(t,
		pair{"5", "Int#5@0"}, pair{" 'a'", "Int#97@1"}, pair{"0", "Int@0"}, pair{"1.5", "Real#4609434218613702656@0"}, pair{"0.0", "Real@0"},
		pair{`"a b"`, "String:a b@0"}, pair{`""`, "String@0"}, pair{"x", "Name:x@0"}, pair{"iota", "Name:iota@0"}, pair{"nil", "Nil@0"},
		pair{"(x)", "Name:x@1"}, pair{"((x))", "Name:x@2"},
		pair{"(x, 1)", "Tuple@0(Name:x@1 Int#1@4)"}, pair{"(x, (1, 2), 3)", "Tuple@0(Name:x@1 Tuple@4(Int#1@5 Int#2@8) Int#3@12)"},
		pair{"((1, 2))", "Tuple@1(Int#1@2 Int#2@5)"}, pair{"(a = 1, b)", "Tuple@0(Assign:=@1(Name:a@1 Int#1@5) Name:b@8)"},
		pair{"array[] of {}", "ArrOf@0"}, pair{"array [ ] of { 1 }", "ArrOf@0(Int#1@15)"},
		pair{"array[] of {1, x = 2}", "ArrOf@0(Int#1@12 Assign:=@15(Name:x@15 Int#2@19))"},
		pair{"list of {}", "ListOf@0"}, pair{"list of {1, (2, 3)}", "ListOf@0(Int#1@9 Tuple@12(Int#2@13 Int#3@16))"},
	)
}

// P6.1: what stands behind an expression.
func TestPostfixes(t *testing.T) {
	hasExprs(t,
		pair{"f()", "Call@0(Name:f@0)"}, pair{"f(1, a = b, (c))", "Call@0(Name:f@0 Int#1@2 Assign:=@5(Name:a@5 Name:b@9) Name:c@13)"},
		pair{"a.b.c", "Dot:c@0(Dot:b@0(Name:a@0))"}, pair{"a->b", "Arrow:b@0(Name:a@0)"},
		pair{"a[1]", "Index@0(Name:a@0 Int#1@2)"}, pair{"a[i = 1]", "Index@0(Name:a@0 Assign:=@2(Name:i@2 Int#1@6))"},
		pair{"a[:]", "Slice@0(Name:a@0 - -)"}, pair{"a[1:]", "Slice@0(Name:a@0 Int#1@2 -)"}, pair{"a[:2]", "Slice@0(Name:a@0 - Int#2@3)"},
		pair{"a[1:2]", "Slice@0(Name:a@0 Int#1@2 Int#2@4)"},
		pair{"x++", "Unary:x++@0(Name:x@0)"}, pair{"x--", "Unary:x--@0(Name:x@0)"}, pair{"x++--", "Unary:x--@0(Unary:x++@0(Name:x@0))"},
		pair{"m->f(1)[2].a++", "Unary:x++@0(Dot:a@0(Index@0(Call@0(Arrow:f@0(Name:m@0) Int#1@5) Int#2@8)))"},
		pair{"(a)[1]", "Index@1(Name:a@1 Int#1@4)"}, pair{"(a + b).c", "Dot:c@1(Binary:+@1(Name:a@1 Name:b@5))"},
		pair{"5(1)", "Call@0(Int#5@0 Int#1@2)"}, pair{`"a"[0]`, "Index@0(String:a@0 Int@4)"}, pair{"nil.x", "Dot:x@0(Nil@0)"},
		pair{"iota()", "Call@0(Name:iota@0)"}, pair{"(1, 2).t0", "Dot:t0@0(Tuple@0(Int#1@1 Int#2@4))"},
		pair{"array[] of {}[0]", "Index@0(ArrOf@0 Int@14)"}, pair{"list of {}.x", "Dot:x@0(ListOf@0)"},
		pair{"(array[3] of int)[0]", "Index@1(NewArr@1(Int#3@7 TName:int@13) Int@18)"},
	)
}

// P6.1: what stands before an expression.
func TestPrefixes(t *testing.T) {
	for _, word := range []string{"+", "-", "!", "~", "<-", "hd", "tl", "len", "tagof"} {
		at := "@" + strconv.Itoa(len(word)+1)
		hasExprs(t, pair{word + " a", "Unary:" + word + "@0(Name:a" + at + ")"},
			pair{word + " a.b", "Unary:" + word + "@0(Dot:b" + at + "(Name:a" + at + "))"})
		sameExprs(t, word+" a * b", "("+word+" a) * b")
	}
	hasExprs(t,
		pair{"++a", "Unary:++x@0(Name:a@2)"}, pair{"--a", "Unary:--x@0(Name:a@2)"}, pair{"++a++", "Unary:++x@0(Unary:x++@2(Name:a@2))"},
		pair{"- -a", "Unary:-@0(Unary:-@2(Name:a@3))"}, pair{"a - -b", "Binary:-@0(Name:a@0 Unary:-@4(Name:b@5))"},
		pair{"-(a)", "Unary:-@0(Name:a@2)"}, pair{"hd tl l", "Unary:hd@0(Unary:tl@3(Name:l@6))"},
		pair{"byte a", "Cast@0(TName:byte@0 Name:a@5)"}, pair{"int -a", "Cast@0(TName:int@0 Unary:-@4(Name:a@5))"},
		pair{"big a * b", "Binary:*@0(Cast@0(TName:big@0 Name:a@4) Name:b@8)"}, pair{"real 1", "Cast@0(TName:real@0 Int#1@5)"},
		pair{"string <-c", "Cast@0(TName:string@0 Unary:<-@7(Name:c@9))"}, pair{"int(a) + 1", "Binary:+@0(Cast@0(TName:int@0 Name:a@4) Int#1@9)"},
		pair{"array of byte s[0]", "ArrByte@0(Index@14(Name:s@14 Int@16))"}, pair{"array of byte -s", "ArrByte@0(Unary:-@14(Name:s@15))"},
		pair{`load Sys "x" + y`, `Binary:+@0(Load:Sys@0(String:x@9) Name:y@15)`}, pair{"load M load N x", "Load:M@0(Load:N@7(Name:x@14))"},
		pair{"ref P(1, 2)", "NewRef@0(Call@4(Name:P@4 Int#1@6 Int#2@9))"}, pair{"ref P.X()", "NewRef@0(Call@4(Dot:X@4(Name:P@4)))"},
		pair{"ref M->P()(1)", "NewRef@0(Call@4(Call@4(Arrow:P@4(Name:M@4)) Int#1@11))"}, pair{"ref (P())", "NewRef@0(Call@5(Name:P@5))"},
		pair{"array[n + 1] of int", "NewArr@0(Binary:+@6(Name:n@6 Int#1@10) TName:int@16)"},
		pair{"array[n] of array of M->T.X", "NewArr@0(Name:n@6 TArray@12(TName:M->T.X@21))"},
		pair{"array[n] of int + 1", "Binary:+@0(NewArr@0(Name:n@6 TName:int@12) Int#1@18)"},
		pair{"chan of (int, ref P)", "NewChan@0(TTuple@8(TName:int@9 TRef@14(TName:P@18)))"},
		pair{"chan of int :: l", "Binary:::@0(NewChan@0(TName:int@8) Name:l@15)"},
		pair{"c = chan of chan of T", "Assign:=@0(Name:c@0 NewChan@4(TChan@12(TName:T@20)))"},
	)
}

func sameExprs(t *testing.T, a, b string) {
	t.Helper()
	if !parse.Same(expr(t, a), expr(t, b)) {
		t.Errorf("%s is not %s", a, b)
	}
}

// levels has the binary operators of the chapter, by rising precedence.
func levels() [][]string {
	return [][]string{{"||"}, {"&&"}, {"::"}, {"|"}, {"^"}, {"&"}, {"==", "!="}, {"<", "<=", ">", ">="}, {"<<", ">>"}, {"+", "-"}, {"*", "/", "%"}}
}

func assignments() []string { return strings.Fields("= := <-= += -= *= /= %= &= |= ^= <<= >>=") }

// P6.1: each pair of operators groups as their precedences say.
func TestPrecedence(t *testing.T) {
	for i, l := range levels() {
		for j, m := range levels() {
			for _, a := range l {
				for _, b := range m {
					right := i < j || i == j && a == "::"
					groups(t, a, b, right)
				}
			}
		}
	}
	for _, a := range assignments() {
		for _, l := range levels() {
			for _, b := range l {
				groups(t, a, b, true)
				groups(t, b, a, false)
			}
		}
		for _, b := range assignments() {
			groups(t, a, b, true)
		}
	}
}

// groups fails unless two operators between names group as said.
func groups(t *testing.T, a, b string, right bool) {
	t.Helper()
	text := "x " + a + " y " + b + " z"
	want := "(x " + a + " y) " + b + " z"
	if right {
		want = "x " + a + " (y " + b + " z)"
	}
	sameExprs(t, text, want)
}

// P6.1: operators, and the chapter's examples.
func TestOperators(t *testing.T) {
	hasExprs(t,
		pair{"a = b :: c + 1", "Assign:=@0(Name:a@0 Binary:::@4(Name:b@4 Binary:+@9(Name:c@9 Int#1@13)))"},
		pair{"a * (b + c)", "Binary:*@0(Name:a@0 Binary:+@5(Name:b@5 Name:c@9))"},
		pair{"(a, b) := c", "Assign::=@0(Tuple@0(Name:a@1 Name:b@4) Name:c@10)"},
		pair{"(a) = (b = c)", "Assign:=@1(Name:a@1 Assign:=@7(Name:b@7 Name:c@11))"},
		pair{"(a = b) = c", "Assign:=@1(Assign:=@1(Name:a@1 Name:b@5) Name:c@10)"},
		pair{"a + b = c + d", "Assign:=@0(Binary:+@0(Name:a@0 Name:b@4) Binary:+@8(Name:c@8 Name:d@12))"},
		pair{"c <-= <-d", "Assign:<-=@0(Name:c@0 Unary:<-@6(Name:d@8))"},
		pair{"-a + b * !c", "Binary:+@0(Unary:-@0(Name:a@1) Binary:*@5(Name:b@5 Unary:!@9(Name:c@10)))"},
		pair{"a || b && c == d", "Binary:||@0(Name:a@0 Binary:&&@5(Name:b@5 Binary:==@10(Name:c@10 Name:d@15)))"},
	)
}
