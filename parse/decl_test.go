package parse_test

import (
	"testing"

	"acheron/api"
)

// P6.1: programs, and the chapter's example.
func TestPrograms(t *testing.T) {
	for _, x := range []pair{
		{"implement M;", "Program:M@0"},
		{" implement  _x ; # nothing", "Program:_x@1"},
		{`implement M; f(a, b: int): string { return "x"; }`, "Program:M@0(Fn:f@13(FnSig:f@13(Param:a@15(TName:int@21) Param:b@18(TName:int@21)" +
			" TName:string@27) Block@34(Return@36(String:x@43))))"},
		{"implement M; a: int; b: int;", "Program:M@0(Var@13(Name:a@13 TName:int@16 -) Var@21(Name:b@21 TName:int@24 -))"},
	} {
		if got := dump(program(t, x.text), 0); got != x.want {
			t.Errorf("%q =\n%s, want\n%s", x.text, got, x.want)
		}
	}
}

// P6.1: variables, constants and names of types.
func TestDecls(t *testing.T) {
	hasDecls(t,
		pair{"x: int;", "Var@0(Name:x@0 TName:int@3 -)"}, pair{"x: int = 1;", "Var@0(Name:x@0 TName:int@3 Int#1@9)"},
		pair{"x, y: T = (z = 1);", "Var@0(Name:x@0 Name:y@3 TName:T@6 Assign:=@11(Name:z@11 Int#1@15))"},
		pair{"x := 1;", "Var@0(Name:x@0 - Int#1@5)"}, pair{"x := y = 2;", "Var@0(Name:x@0 - Assign:=@5(Name:y@5 Int#2@9))"},
		pair{"x: con 1;", "Con@0(Name:x@0 Int#1@7)"},
		pair{"x, y, z: con iota + 1;", "Con@0(Name:x@0 Name:y@3 Name:z@6 Binary:+@13(Name:iota@13 Int#1@20))"},
		pair{"x: type int;", "TypeDef:x@0(TName:int@8)"}, pair{"x: type array of x;", "TypeDef:x@0(TArray@8(TName:x@17))"},
	)
}

// P6.1: types.
func TestTypes(t *testing.T) {
	for _, x := range []pair{
		{"byte", "TName:byte@3"}, {"int", "TName:int@3"}, {"big", "TName:big@3"}, {"real", "TName:real@3"}, {"string", "TName:string@3"},
		{"T", "TName:T@3"}, {"M -> T", "TName:M->T@3"}, {"P . X", "TName:P.X@3"}, {"M->P.X", "TName:M->P.X@3"},
		{"ref P", "TRef@3(TName:P@7)"}, {"ref M->P.X", "TRef@3(TName:M->P.X@7)"}, {"array of int", "TArray@3(TName:int@12)"},
		{"list of ref P", "TList@3(TRef@11(TName:P@15))"}, {"chan of list of T", "TChan@3(TList@11(TName:T@19))"},
		{"(int, T)", "TTuple@3(TName:int@4 TName:T@9)"},
		{"(array of int, (T, T), ref P)", "TTuple@3(TArray@4(TName:int@13) TTuple@18(TName:T@19 TName:T@22) TRef@26(TName:P@30))"},
	} {
		hasDecls(t, pair{"x: " + x.text + ";", "Var@0(Name:x@0 " + x.want + " -)"})
		hasStmts(t, pair{"x: " + x.text + ";", "Var@0(Name:x@0 " + x.want + " -)"})
	}
}

// P6.1: adts.
func TestAdts(t *testing.T) {
	hasDecls(t,
		pair{"P: adt { };", "Adt:P@0"}, pair{"P: adt { pick { } };", "Adt:P@0"},
		pair{"P: adt { x, y: int; z: P; };", "Adt:P@0(Var@9(Name:x@9 Name:y@12 TName:int@15 -) Var@20(Name:z@20 TName:P@23 -))"},
		pair{"P: adt { f: fn(); x: int; g: fn(p: self ref P): int; };", "Adt:P@0(FnSig:f@9(-) Var@18(Name:x@18 TName:int@21 -)" +
			" FnSig:g@26(Param#1:p@32(TRef@40(TName:P@44)) TName:int@48))"},
		pair{"P: adt { x: int; pick { A => B => y: int; z, u: T; C => } };", "Adt:P@0(Var@9(Name:x@9 TName:int@12 -) PickArm:A@24" +
			" PickArm:B@29(Var@34(Name:y@34 TName:int@37 -) Var@42(Name:z@42 Name:u@45 TName:T@48 -)) PickArm:C@51)"},
	)
}

// P6.1: modules.
func TestModules(t *testing.T) {
	hasDecls(t,
		pair{"M: module { };", "Module:M@0"},
		pair{"M: module { x, y: con 1; T: type int; P: adt { x: int; }; f: fn(a: int); };", "Module:M@0(Con@12(Name:x@12 Name:y@15 Int#1@22)" +
			" TypeDef:T@25(TName:int@33) Adt:P@38(Var@47(Name:x@47 TName:int@50 -)) FnSig:f@58(Param:a@64(TName:int@67) -))"},
		pair{"M: module { f: fn[T](a: T): T for { T => g: fn(); }; };", "Module:M@0(FnSig:f@12(TypeVar:T@18(FnSig:g@41(-)) Param:a@21(TName:T@24)" +
			" TName:T@28))"},
	)
}

// P6.1: functions, parameters, results.
func TestFunctions(t *testing.T) {
	hasDecls(t,
		pair{"f() { }", "Fn:f@0(FnSig:f@0(-) Block@4)"}, pair{"f(): int { }", "Fn:f@0(FnSig:f@0(TName:int@5) Block@9)"},
		pair{"P . f() { ; }", "Fn:P.f@0(FnSig:P.f@0(-) Block@8(Empty@10))"},
		pair{"f(a: int, b, c: self ref P, d: T) { }", "Fn:f@0(FnSig:f@0(Param:a@2(TName:int@5) Param#1:b@10(TRef@21(TName:P@25))" +
			" Param#1:c@13(TRef@21(TName:P@25)) Param:d@28(TName:T@31) -) Block@34)"},
		pair{"f[T, U](a: T) { }", "Fn:f@0(FnSig:f@0(TypeVar:T@2 TypeVar:U@5 Param:a@8(TName:T@11) -) Block@14)"},
		pair{"P.f[T](): T { }", "Fn:P.f@0(FnSig:P.f@0(TypeVar:T@4 TName:T@10) Block@12)"},
	)
}

// P6.1: constraints, also those of a name in several entries, and none.
func TestConstraints(t *testing.T) {
	hasDecls(t,
		pair{"f[T]() for { } { }", "Fn:f@0(FnSig:f@0(TypeVar:T@2 -) Block@15)"}, pair{"f() for { } { }", "Fn:f@0(FnSig:f@0(-) Block@12)"},
		pair{"f[T]() for { T => } { }", "Fn:f@0(FnSig:f@0(TypeVar:T@2 -) Block@20)"},
		pair{"f[T, U]() for { U => g: fn(): U; T => h: fn(); U => i: fn(t: self T); j: fn(); } { }", "Fn:f@0(FnSig:f@0(" +
			"TypeVar:T@2(FnSig:h@38(-)) TypeVar:U@5(FnSig:g@21(TName:U@30) FnSig:i@52(Param#1:t@58(TName:T@66) -) FnSig:j@70(-)) -) Block@81)"},
		pair{"f[T]() for { T => T: fn(); T => T: fn(); } { }", "Fn:f@0(FnSig:f@0(TypeVar:T@2(FnSig:T@18(-) FnSig:T@32(-)) -) Block@43)"},
	)
	// Of two equal names in brackets the first one is meant.
	hasDecls(t, pair{"f[T, T]() for { T => g: fn(); } { }", "Fn:f@0(FnSig:f@0(TypeVar:T@2(FnSig:g@21(-)) TypeVar:T@5 -) Block@32)"})
}

// P6.1: names are what they are called, whatever other names there are.
func TestNamesAreFree(t *testing.T) {
	hasDecls(t,
		pair{"M, M: int;", "Var@0(Name:M@0 Name:M@3 TName:int@6 -)"}, pair{"sys: con sys;", "Con@0(Name:sys@0 Name:sys@9)"},
		pair{"f(f: f): f { }", "Fn:f@0(FnSig:f@0(Param:f@2(TName:f@5) TName:f@9) Block@11)"},
	)
}

// R4: no node shares memory with another one, as those of parameters of one type might.
func TestOwnMemory(t *testing.T) {
	n := program(t, "implement M; f(a, b: (int, array of T)) { x, y: int; }")
	params := n.Kids[0].Kids[0].Kids[:2]
	params[0].Kids[0].Kids[1].Kids[0].Text = "U"
	params[0].Kids[0].Kids[0] = api.Node{}
	want := "Param:b@18(TTuple@21(TName:int@22 TArray@27(TName:T@36)))"
	if got := dump(params[1], 0); got != want {
		t.Errorf("the second parameter is %s, want %s", got, want)
	}
	before := dump(n, 0)
	for _, k := range all(n) {
		_ = append(k.Kids, api.Node{Kind: api.NExit})
	}
	if got := dump(n, 0); got != before {
		t.Errorf("%s has become %s", before, got)
	}
}
