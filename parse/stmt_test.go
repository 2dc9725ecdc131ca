package parse_test

import "testing"

// P6.1: statements of one part.
func TestSimpleStmts(t *testing.T) {
	hasStmts(t,
		pair{"", ""}, pair{";", "Empty@0"}, pair{"a;", "Expr@0(Name:a@0)"}, pair{"(a);", "Expr@0(Name:a@1)"},
		pair{"(a, b) := f();", "Expr@0(Assign::=@0(Tuple@0(Name:a@1 Name:b@4) Call@10(Name:f@10)))"}, pair{"x := 1;", "Expr@0(Assign::=@0(Name:x@0 Int#1@5))"},
		pair{"5;", "Expr@0(Int#5@0)"}, pair{"int x;", "Expr@0(Cast@0(TName:int@0 Name:x@4))"}, pair{"ref P();", "Expr@0(NewRef@0(Call@4(Name:P@4)))"},
		pair{"return;", "Return@0(-)"}, pair{"return a;", "Return@0(Name:a@7)"}, pair{"spawn f(1);", "Spawn@0(Call@6(Name:f@6 Int#1@8))"},
		pair{"spawn a;", "Spawn@0(Name:a@6)"}, pair{`raise "e" + s;`, "Raise@0(Binary:+@6(String:e@6 Name:s@12))"}, pair{"exit;", "Exit@0"},
		pair{"break;", "Break@0"}, pair{"break a;", "Break:a@0"}, pair{"continue ;", "Continue@0"}, pair{"continue b;", "Continue:b@0"},
		pair{"{}", "Block@0"}, pair{"{ a; { ; } }", "Block@0(Expr@2(Name:a@2) Block@5(Empty@7))"},
		pair{"x: int;", "Var@0(Name:x@0 TName:int@3 -)"}, pair{"x, y: M->T = 1;", "Var@0(Name:x@0 Name:y@3 TName:M->T@6 Int#1@13)"},
		pair{"x: con 1;", "Con@0(Name:x@0 Int#1@7)"}, pair{"x, y: con iota;", "Con@0(Name:x@0 Name:y@3 Name:iota@10)"},
		pair{"a; b;", "Expr@0(Name:a@0) Expr@3(Name:b@3)"},
	)
}

// P6.1: conditions, loops, labels.
func TestCompoundStmts(t *testing.T) {
	hasStmts(t,
		pair{"if (a) b;", "If@0(Name:a@4 Expr@7(Name:b@7) -)"}, pair{"if (a) ; else { }", "If@0(Name:a@4 Empty@7 Block@14)"},
		pair{"if (a) if (b) c; else d;", "If@0(Name:a@4 If@7(Name:b@11 Expr@14(Name:c@14) Expr@22(Name:d@22)) -)"},
		pair{"if (a) if (b) c; else d; else e;", "If@0(Name:a@4 If@7(Name:b@11 Expr@14(Name:c@14) Expr@22(Name:d@22)) Expr@30(Name:e@30))"},
		pair{"if (a) while (b) if (c) ; else ;", "If@0(Name:a@4 While@7(Name:b@14 If@17(Name:c@21 Empty@24 Empty@31)) -)"},
		pair{"if ((a)) b; else if (c) d;", "If@0(Name:a@5 Expr@9(Name:b@9) If@17(Name:c@21 Expr@24(Name:d@24) -))"},
		pair{"while () ;", "While@0(- Empty@9)"}, pair{"while (a = 1) b;", "While@0(Assign:=@7(Name:a@7 Int#1@11) Expr@14(Name:b@14))"},
		pair{"do a; while (b);", "Do@0(Expr@3(Name:a@3) Name:b@13)"}, pair{"do { } while (b);", "Do@0(Block@3 Name:b@14)"},
		pair{"do while (a) b; while (c);", "Do@0(While@3(Name:a@10 Expr@13(Name:b@13)) Name:c@23)"},
		pair{"for (;;) ;", "For@0(- - - Empty@9)"}, pair{"for (a; b; c) d;", "For@0(Name:a@5 Name:b@8 Name:c@11 Expr@14(Name:d@14))"},
		pair{"for (;b;) ;", "For@0(- Name:b@6 - Empty@10)"}, pair{"for (i := 0;;) ;", "For@0(Assign::=@5(Name:i@5 Int@10) - - Empty@15)"},
		pair{"l: while (a) b;", "Label:l@0(While@3(Name:a@10 Expr@13(Name:b@13)))"}, pair{"l: do ; while (a);", "Label:l@0(Do@3(Empty@6 Name:a@15))"},
		pair{"l: for (;;) ;", "Label:l@0(For@3(- - - Empty@12))"}, pair{"l: case a { }", "Label:l@0(Case@3(Name:a@8))"},
		pair{"l: alt { }", "Label:l@0(Alt@3)"}, pair{"l: pick x := a { }", "Label:l@0(Pick:x@3(Name:a@13))"}, pair{"l: { }", "Label:l@0(Block@3)"},
		pair{"l: { } exception { }", "Label:l@0(Except@3(Block@3))"}, pair{"l: { m: { } }", "Label:l@0(Block@3(Label:m@5(Block@8)))"},
	)
}

// P6.1: the arms of a case, and the chapter's example.
func TestCases(t *testing.T) {
	hasStmts(t,
		pair{"case x { 1 or 3 to 5 => y++; * => ; }", "Case@0(Name:x@5 Arm@9(Int#1@9 Range@14(Int#3@14 Int#5@19) Block@24(Expr@24(Unary:x++@24(Name:y@24))))" +
			" Arm@29(Star@29 Block@34(Empty@34)))"},
		pair{"case x { }", "Case@0(Name:x@5)"}, pair{"case x = y { }", "Case@0(Assign:=@5(Name:x@5 Name:y@9))"},
		pair{"case x { 1 => }", "Case@0(Name:x@5 Arm@9(Int#1@9 Block@14))"}, pair{"case x { 1 => 2 => }", "Case@0(Name:x@5 Arm@9(Int#1@9 Block@14) Arm@14(Int#2@14 Block@19))"},
		pair{"case x { * or 1 or * => }", "Case@0(Name:x@5 Arm@9(Star@9 Int#1@14 Star@19 Block@24))"},
		pair{"case x { (1) to (2) => (3) or (a) => }", "Case@0(Name:x@5 Arm@9(Range@10(Int#1@10 Int#2@17) Block@23) Arm@23(Int#3@24 Name:a@31 Block@37))"},
		pair{"case x { 1 => a; b = 2; c => d; }", "Case@0(Name:x@5 Arm@9(Int#1@9 Block@14(Expr@14(Name:a@14) Expr@17(Assign:=@17(Name:b@17 Int#2@21))))" +
			" Arm@24(Name:c@24 Block@29(Expr@29(Name:d@29))))"},
		pair{"case x { a = 1 => b: int; c: con 1; d, e: T; }", "Case@0(Name:x@5 Arm@9(Assign:=@9(Name:a@9 Int#1@13) Block@18(Var@18(Name:b@18 TName:int@21 -)" +
			" Con@26(Name:c@26 Int#1@33) Var@36(Name:d@36 Name:e@39 TName:T@42 -))))"},
		pair{"case x { 1 => case y { 2 => } 3 => { } exception { } }", "Case@0(Name:x@5 Arm@9(Int#1@9 Block@14(Case@14(Name:y@19 Arm@23(Int#2@23 Block@28))))" +
			" Arm@30(Int#3@30 Block@35(Except@35(Block@35))))"},
		pair{"case x { 1 => if (a) b; array[n] of int + 1 => }", "Case@0(Name:x@5 Arm@9(Int#1@9 Block@14(If@14(Name:a@18 Expr@21(Name:b@21) -)))" +
			" Arm@24(Binary:+@24(NewArr@24(Name:n@30 TName:int@36) Int#1@42) Block@47))"},
		pair{`case s { "a" to "b" => l: while () break l; }`, `Case@0(Name:s@5 Arm@9(Range@9(String:a@9 String:b@16) Block@23(Label:l@23(While@26(- Break:l@35)))))`},
	)
}

// P6.1: the arms of other statements.
func TestArms(t *testing.T) {
	hasStmts(t,
		pair{"alt { }", "Alt@0"}, pair{"alt { x := <-c => a; d <-= 1 => * => }", "Alt@0(Arm@6(Assign::=@6(Name:x@6 Unary:<-@11(Name:c@13)) Block@18(Expr@18(Name:a@18)))" +
			" Arm@21(Assign:<-=@21(Name:d@21 Int#1@27) Block@32) Arm@32(Star@32 Block@37))"},
		pair{"alt { (<-c) => <-d; <-e => }", "Alt@0(Arm@6(Unary:<-@7(Name:c@9) Block@15(Expr@15(Unary:<-@15(Name:d@17)))) Arm@20(Unary:<-@20(Name:e@22) Block@27))"},
		pair{"pick x := a.b { }", "Pick:x@0(Dot:b@10(Name:a@10))"},
		pair{"pick x := y = z { A or B => a; B: int; C => * or D => }", "Pick:x@0(Assign:=@10(Name:y@10 Name:z@14) Arm@18(Name:A@18 Name:B@23" +
			" Block@28(Expr@28(Name:a@28) Var@31(Name:B@31 TName:int@34 -))) Arm@39(Name:C@39 Block@44) Arm@44(Star@44 Name:D@49 Block@54))"},
		pair{"{ a; } exception { }", "Except@0(Block@0(Expr@2(Name:a@2)))"},
		pair{`{ } exception e { "a*" or "" => raise e; "b"; "c" => * => }`, `Except:e@0(Block@0 Arm@18(String:a*@18 String@26 Block@32(Raise@32(Name:e@38)` +
			` Expr@41(String:b@41))) Arm@46(String:c@46 Block@53) Arm@53(Star@53 Block@58))`},
		pair{"{ } exception e { * => { } exception { } }", "Except:e@0(Block@0 Arm@18(Star@18 Block@23(Except@23(Block@23))))"},
	)
}
