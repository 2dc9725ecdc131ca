package parse_test

import (
	"testing"

	"acheron/api"
	"acheron/lex"
	"acheron/parse"
)

// P6.1: what the grammar does not permit in expressions.
func TestExprFaults(t *testing.T) {
	failsExprs(t, "$", "$)", "$= a", "$of", "$type", "$self", "$fn", "$while", "$:", "$=>", "$* a", "$}",
		"a $b", "a $5", "a +$", "a + $* b", "a $! b", "a $hd b", "a $: b", "a $=> b", "a $of", "a $or b", "a $to b", "a $, b",
		"a = $", "a = $= b", "a := $)", "a ++ $b", "a $~", "a :: $", "a || $|| b",
		"($)", "(a$", "(a,$)", "(a $: b)", "(a, b $c)", "((a, b)$", "(a)$)",
		"a.$1", "a.$(b)", "a.$int", "a->$", "a->$int", "f($,)", "f(a,$)", "f(a $b)", "f(a$", "f(a $: b)",
		"a[$]", "a[b $c]", "a[b$, c]", "a[: $: ]", "a[b:c$:]", "a[b:c $d]", "a[$", "a[b$", "a[:$",
		"hd$", "- $* a", "int$", "int $)", "int $of", "load$", `load $"x"`, "load M$", "load M $-> N x", "load $int x")
	failsExprs(t, "array$", "array $x", "array[$", "array[n$", "array[n$:m] of int", "array[n] $int", "array[n] of$", "array[n] of $5",
		"array[n] of int$[0]", "array[n] of int$(a)", "array[n] of int$.x", "array[n] of T$++", "array[n] of T.x$.y",
		"array[n] of T->x.y$->z", "array of$", "array of $int", "array of ${", "array of byte$",
		"array[] $int", "array[] of $int", "array[] of {1 $2}", "array[] of {1,$}", "array[] of {$,}", "array[] of {$",
		"list$", "list $x", "list of$", "list of $int", "list of {1 $:}", "list of {1,$}",
		"chan$", "chan $x", "chan of$", "chan of $5", "chan of int$(1)", "chan of (int$)", "chan of (int, $)", "chan of ($)",
		"chan of (int, int $int)", "chan of ref$", "chan of ref $int", "chan of ref $ref P", "chan of T->$", "chan of T.$int")
}

// P6.1: a ref must have a call behind it; the first wrong one counts, or what is wrong before it is known to be wrong.
func TestRefFaults(t *testing.T) {
	failsExprs(t, "$ref x", "a + $ref x", "$ref x.y", "$ref P().x", "$ref P()[1]", "$ref -P()", "$ref (P() + 1)", "$ref ref P()",
		"$ref ref x", "$ref -ref x", "$ref (ref x)", "$ref (ref x + 1)", "ref P($ref x, ref y)", "ref ($ref x)(1)", "$ref x + ref y",
		"$ref x ref y", "$ref x )", "$ref array of byte P()", "$ref int P()", "$ref 5", "$ref nil", "$ref (P(), 1)", "$ref (ref x) )",
		"ref ref x ($", "ref P($ref x y)", "ref x.$1", "ref (x $y)", "ref -$)", "ref $of", "ref$", "$ref P()++", "$ref list of {P()}",
		"$ref x = P()", "ref P() + $ref x + ]", "-$ref x", "$ref (x)(1).y")
	failsStmts(t, "ref P(); $ref x; ]", "$ref x; x ]", "case a { $ref x => b; }", "case a { 1 => $ref x; }",
		"case a { 1 => a; $ref x => b; }", "case a { 1 => a $or ref x; }", "case a { 1 or $ref x => }", "alt { 1 => $ref ref x => ]",
		"case $ref a { ] }")
	hasExprs(t, pair{"ref P(ref Q())", "NewRef@0(Call@4(Name:P@4 NewRef@6(Call@10(Name:Q@10))))"})
}

// P6.1: what the grammar does not permit in a program.
func TestProgramFaults(t *testing.T) {
	fails(t, api.ErrSyntax, "$", "$x", "$;", "$M;", "implement$", "implement $;", "implement $int;", "implement M$", "implement M $x",
		"implement M $.x;", "implement M; x: y$", "implement M; x, y $:= 1;", "implement M;$;", "implement M; $implement N;")
	failsDecls(t, "$;", "$5", "$con", "$if (a) b;", "${ }", "$(x)", "x$", "x $y", "x $5", "x $= 1;", "x $; y", "x $-> y", "x,$",
		"x, $1", "x, y$", "x, y $(a)", "x := $;", "x := 1 $2;", "x := 1$", "x := 1;$;", "x:$", "x: $;", "x: $5", "x: $= 1",
		"x: $self int;", "x: $fn();", "x: y $z;", "x: int $:= 1;", "x: int =$;", "x: int = 1 $2;", "x: int$",
		"x, y: $module { };", "x, y: $type int;", "x, y: $adt { };",
		"x: con$;", "x: con 1$", "x: con 1 $int;", "x: type$;", "x: type int $= 1;", "x: type $con;", "x: type int$")
}

// P6.1: what the grammar does not permit in modules.
func TestModuleFaults(t *testing.T) {
	failsDecls(t, "M: module$", "M: module $;", "M: module { $; };", "M: module { }$", "M: module { } $x", "M: module { x$",
		"M: module { x $:= 1; };", "M: module { x $.y: fn(); };", "M: module { x: $int; };", "M: module { x, y: $fn(); };",
		"M: module { x, y: $type int; };", "M: module { x: $module { }; };", "M: module { x: fn$; };", "M: module { x: fn()$ };",
		"M: module { x: fn[$](); };", "M: module { x: fn[T $U](); };", "M: module { x: fn[T,$](); };", "M: module { x: fn[T]$; };",
		"M: module { x: fn() ${ } };", "M: module { x: fn() for$; };", "M: module { x: fn() for { } $for { }; };")
}

// P6.1: what the grammar does not permit in adts.
func TestAdtFaults(t *testing.T) {
	failsDecls(t, "A: adt$", "A: adt $;", "A: adt { $; };", "A: adt { }$", "A: adt { } $x", "A: adt { x$ };", "A: adt { x $:= 1; };",
		"A: adt { x: int $= 1; };", "A: adt { x: $con 1; };", "A: adt { x, y: $fn(); };", "A: adt { x: fn$[T](); };",
		"A: adt { f: fn() $for { }; };", "A: adt { x: $type int; };", "A: adt { x: $adt { }; };",
		"A: adt { pick$ };", "A: adt { pick { x $: int; } };", "A: adt { pick { $; } };", "A: adt { pick { x =>$", "A: adt { pick { x => y$; } };",
		"A: adt { pick { x => y: $fn(); } };", "A: adt { pick { x => y: int; z $.a } };", "A: adt { pick { x => y, z $=> } };",
		"A: adt { pick { x => $pick { } } };", "A: adt { pick { } $pick { } };", "A: adt { pick { } $x: int; };",
		"A: adt { pick { x => y: int $= 1; } };", "A: adt { pick { x $or y => } };", "A: adt { pick { x => } $; };")
}

// P6.1: what the grammar does not permit in functions, at the program's level.
func TestFunctionFaults(t *testing.T) {
	failsDecls(t, "f($", "f($1) { }", "f(a$) { }", "f(a $int) { }", "f(a:$) { }", "f(a: int$", "f(a: int,$) { }", "f(a: int $b: int) { }",
		"f(a,$) { }", "f(a: self$) { }", "f(a: self $self int) { }", "f($self a: int) { }", "f(a: int $= 1) { }", "f()$", "f()$;",
		"f():$", "f(): ${ }", "f(): int$;", "f(): int for$;", "f() {$", "f() { }$;", "f() { } $}", "f.$", "f.$(", "f.g$",
		"f.g $.h() { }", "f.g $: int;", "f.g $:= 1;", "f[$", "f[$]() { }", "f[T$", "f[T $U]() { }", "f[T,$]() { }", "f[T]$ { }",
		"f[T] $[U]() { }", "f() $fn", "f $fn() { }",
		"f[T]() for$", "f[T]() for $T", "f[T]() for { $; }", "f[T]() for { T$ }", "f[T]() for { T $: }", "f[T]() for { T => $1",
		"f[T]() for { T => g$; }", "f[T]() for { T => g$, h: fn(); } { }", "f[T]() for { T => g: $int; } { }",
		"f[T]() for { T => g: fn$[U](); } { }", "f[T]() for { T => g: fn() $for { }; } { }", "f[T]() for { T => g: fn()$ } { }",
		"f[T]() for { }$;", "f[T]() for { T => g: fn(); $; } { }", "f[T]() for { } $for { } { }", "f[T]() for { T => U$ } { }",
		"f[T]() for { T => U $x => } { }")
}

// P6.1: a name in constraints that is not one of those in brackets.
func TestConstraintFaults(t *testing.T) {
	for _, x := range []string{"f[T](x: T) for { $U => g: fn(); } { }", "f() for { $U => } { }", "f[T]() for { T => $U => } { }",
		"f[T]() for { T => g: fn(); $U => } ]", "f[T]() for { $U ]", "f[T]() for { $t => } { }", "f.T[U]() for { $f => } { }",
		"f[U](T: int) for { $T => } { }", "f() { } g[T]() { } h[U]() for { $T => } { }",
		"M: module { f: fn[T]() for { $U => }; };", "M: module { f: fn() for { $T => }; };"} {
		fails(t, api.ErrName, beforeDecl+x)
	}
}

// P6.1: what the grammar does not permit in statements.
func TestStmtFaults(t *testing.T) {
	failsStmts(t, "$)", "$else ;", "$of", "$exception { }", "$con", "$to", "$=> a", "$module", "x$", "x $y;", "x $=> ;", "x, $1", "x, y$;",
		"x, y $= 1;", "x:$;", "x: $5", "x: $: int;", "x: $module { };", "x: $type int;", "x: $adt { };", "x: $fn();", "x: $if (a) b;",
		"x: $return;", "x, y: $while (a) b;", "x, y: ${ }", "x: y $: while (a) b;", "x: int $:= 1;", "x: int = $;", "x: int$",
		"x: con $;", "x: con 1$", "x, y $:= 1;", "x.y $: int;", "x.$5", "{", "{ a$", "{ $)",
		"{ } exception$", "{ } exception $;", "{ } exception e$", "{ } exception e $f { }", `{ } exception $"a" { }`, "{ } $else ;")
	failsStmts(t, "if$", "if $a b;", "if ($) a;", "if (a$; b", "if (a)$", "if (a) b $else c;", "if (a) b; else$", "if (a) b; else c; $else d;",
		"while$", "while $a b;", "while ($; a) b;", "while ()$", "while (a)$", "do$", "do a$", "do a;$", "do a; $b;", "do a; while$",
		"do a; while ($);", "do a; while (b)$", "do a; while (b) $c;", "do { }$",
		"for$", "for $a", "for ($)", "for (a$)", "for (;$)", "for (;;$;) a;", "for (;;)$", "for (a$, b;;) c;",
		"return $)", "return a$", "return a $b;", "spawn$;", "spawn a$", "raise$;", "raise a $b;", "exit$", "exit $a;",
		"break $5;", "break a $b;", "break$", "continue $while;", "continue a$")
}

// P6.1: what the grammar does not permit in the arms of a case.
func TestCaseFaults(t *testing.T) {
	failsStmts(t, "case$", "case ${ }", "case a$;", "case a {$;", "case a { 1$", "case a { 1$; }", "case a { $; }", "case a { 1 or$ => }",
		"case a { 1 to$ => }", "case a { 1 to 2 $to 3 => }", "case a { 1 or 2$ }", "case a { *$; }", "case a { * $to 2 => }",
		"case a { 1 to $* => }", "case a { 1 => b$ }", "case a { a $: b => }", "case a { $if (b) c; }", "case a { 1 => $]", "case a { 1$, 2 => }")
	// What is not labels and "=>" is a statement.
	failsStmts(t, "case a { 1 => b $or c; }", "case a { 1 => b $to c; }", "case a { 1 => b $to c }", "case a { 1 => $* ; }", "case a { 1 => $* or }",
		"case a { 1 => b; c $or d e; }", "case a { 1 => (b $c) => }", "case a { 1 => $=> }", "case a { 1 => b => $=> }",
		"case a { 1 => if (b) c $=> ; }", "case a { 1 => { b $=> } }", "case a { 1 => b: $=> }", "case a { 1 => b, $=> }")
}

// P6.1: what the grammar does not permit in other arms.
func TestArmFaults(t *testing.T) {
	failsStmts(t, "alt$", "alt $a { }", "alt {$;", "alt { a$; }", "alt { a $or b => }", "alt { a $to b => }", "alt { * $or a => }",
		"alt { * => a $or b => }", "alt { * => $* }", "alt { * => a $b => }")
	failsStmts(t, "pick$", "pick $1", "pick x$", "pick x $= a", "pick x :=$;", "pick x := ${ }", "pick x := a$;", "pick x := a {$;",
		"pick x := a { $1 => }", "pick x := a { X$; }", "pick x := a { X $to Y => }", "pick x := a { X or$ => }", "pick x := a { X or $1 => }",
		"pick x := a { X $.Y => }", "pick x := a { X => b $or c; }", "pick x := a { X => b.c $=> }", "pick x := a { X => 1 $=> }",
		"pick x := a { X => (Y) $=> }", "pick $int := a { }", "pick x$: a { }")
	failsStmts(t, "{ } exception {$;", "{ } exception { $a => }", `{ } exception { "a"$; }`, `{ } exception { "a" $to "b" => }`,
		`{ } exception { "a" or$ => }`, `{ } exception { "a" => a $=> }`, `{ } exception { "a" => "b" $or "c" }`,
		`{ } exception { "a" => ("b") $=> }`, "{ } exception { * or * => } $exception { }", `{ } exception { "a" $+ "b" => }`)
}

// P6.1: Text has lex's faults, and first.
func TestLexFaults(t *testing.T) {
	for _, x := range []string{"implement M; x: y ?", "? x", "x 12ab", "implement M; \"a", "implement M; \xff", "] 'ab'"} {
		_, want := lex.Tokens(x)
		if n, f := parse.Text(x); f != want || want.Code == api.OK || !equal(n, api.Node{}) {
			t.Errorf("Text(%q) = %s, %v, want %v", x, dump(n, 0), f, want)
		}
	}
}
