package format_test

import (
	"testing"
)

// P7.1: the chapter's example.
func TestExample(t *testing.T) {
	isText(t, `implement M;f(a,b:int):string{if(a==b)return "x";else{g(-(-a),!b);}}`, `implement M;
f(a: int, b: int): string {
	if (a == b) return "x";
	else {
		g(- -a, !b);
	}
}
`)
	isText(t, "implement\tM\n;", "implement M;\n")
}

// P7.1: variables, constants and types.
func TestDecls(t *testing.T) {
	for _, x := range [][2]string{
		{"x:int;", "x: int;"}, {"x,y , z:T=( 1 );", "x, y, z: T = 1;"}, {"x:=(a=b);", "x := a = b;"}, {"x,y:con iota*2;", "x, y: con iota * 2;"},
		{"T:type array of(int,ref P);", "T: type array of (int, ref P);"}, {"T: type(int,M -> T . X);", "T: type (int, M->T.X);"},
		{"c: chan of list of array of byte;", "c: chan of list of array of byte;"}, {"l:=list of{1};", "l := list of { 1 };"},
		{"l: list of int=list of{1,2};", "l: list of int = list of { 1, 2 };"}, {"x:=array[]of{};y:=array[3]of(int,int);", "x := array[] of {};\ny := array[3] of (int, int);"},
		{"P:adt{};", "P: adt {};"}, {"P: adt { pick { } };", "P: adt {};"}, {"P:adt{x,y:int;};", "P: adt {\n\tx, y: int;\n};"},
		{"P:adt{x:int;f:fn(a:self P):int;y:T;g:fn();};", "P: adt {\n\tx: int;\n\tf: fn(a: self P): int;\n\ty: T;\n\tg: fn();\n};"},
		{"P:adt{pick{A=>}};", "P: adt {\n\tpick {\n\t\tA =>\n\t}\n};"},
		{"P:adt{x:int;pick{A=>B=>y,z:T;u:int;C=>}};", "P: adt {\n\tx: int;\n\tpick {\n\t\tA =>\n\t\tB =>\n\t\ty, z: T;\n\t\tu: int;\n\t\tC =>\n\t}\n};"},
		{"M: module { };", "M: module {};"},
		{"M:module{x:con 1;T:type int;P:adt{x:int;};f:fn(a:int);};x:int;", "M: module {\n\tx: con 1;\n\tT: type int;\n\tP: adt {\n\t\tx: int;\n\t};\n\tf: fn(a: int);\n};\nx: int;"},
	} {
		isDecl(t, x[0], x[1])
	}
}

// P7.1: functions, each parameter with its own type, type variables, and their constraints in one line.
func TestFunctions(t *testing.T) {
	for _, x := range [][2]string{
		{"f(){}", "f() {}"}, {"f ( ) : (int,T) { ; }", "f(): (int, T) {\n\t;\n}"}, {"P . f(p:self ref P){}", "P.f(p: self ref P) {}"},
		{"f(a,b:self T,c:int,d,e:(int,int)){}", "f(a: self T, b: self T, c: int, d: (int, int), e: (int, int)) {}"},
		{"f[T](){}", "f[T]() {}"}, {"P.f[T,U](a,b:T):U{}", "P.f[T, U](a: T, b: T): U {}"}, {"f() for { } { }", "f() {}"}, {"f[T,U]() for { T => U => T => } { }", "f[T, U]() {}"},
		{"f[T](a:T):T for{T=>g:fn():T;}{}g(){}", "f[T](a: T): T for { T => g: fn(): T; } {}\ng() {}"},
		{"f[T,U,V]() for{V=>g:fn();T=>U=>V=>h:fn(a,b:self V);T=>i:fn();}{;}", "f[T, U, V]() for { T => i: fn(); V => g: fn(); h: fn(a: self V, b: self V); } {\n\t;\n}"},
		{"f[T,T]()for{T=>g:fn();}{}", "f[T, T]() for { T => g: fn(); } {}"},
		{"M:module{f:fn[T](a,b:T)for{T=>g:fn();};g:fn[T,U]()for{};h:fn[T]():int;};", "M: module {\n\tf: fn[T](a: T, b: T) for { T => g: fn(); };\n\tg: fn[T, U]();\n\th: fn[T](): int;\n};"},
		{"f(){}g(){}", "f() {}\ng() {}"}, {"f(){}x:int;", "f() {}\nx: int;"},
	} {
		isDecl(t, x[0], x[1])
	}
}

// P7.1: statements without others in them.
func TestStmts(t *testing.T) {
	for _, x := range [][2]string{
		{";", ";"}, {";;", ";\n;"}, {"{}", "{}"}, {"{}{}", "{}\n{}"}, {"{;}", "{\n\t;\n}"}, {"{{}}", "{\n\t{}\n}"}, {"{{;}{}}", "{\n\t{\n\t\t;\n\t}\n\t{}\n}"},
		{"x:int;", "x: int;"}, {"x,y:T=1;", "x, y: T = 1;"}, {"x,y:con 1;", "x, y: con 1;"}, {"x:=1;", "x := 1;"}, {"(x,y):=f();", "(x, y) := f();"},
		{"return;", "return;"}, {"return(a,b);", "return (a, b);"}, {"return(a);", "return a;"}, {"spawn f(a);", "spawn f(a);"}, {`raise"e";`, `raise "e";`},
		{"exit ;", "exit;"}, {"break;continue;", "break;\ncontinue;"}, {"break l ;continue l;", "break l;\ncontinue l;"}, {"c<-=1;", "c <-= 1;"}, {"<-c;", "<-c;"},
		{"list of{1};", "list of { 1 };"}, {"ref P(1);", "ref P(1);"}, {"(a).b();", "a.b();"}, {"(a+b).c();", "(a + b).c();"},
		{"x:=list of{1};{}", "x := list of { 1 };\n{}"}, {"f(list of{1},array[]of{});", "f(list of { 1 }, array[] of {});"},
	} {
		isStmt(t, x[0], x[1])
	}
}

// P7.1: conditions and loops.
func TestCompounds(t *testing.T) {
	for _, x := range [][2]string{
		{"if(a)b;", "if (a) b;"}, {"if((a))b;else c;", "if (a) b;\nelse c;"}, {"if(a){}", "if (a) {}"}, {"if(a){}else{}", "if (a) {} else {}"}, {"if(a){}b;", "if (a) {}\nb;"},
		{"if(a){b;}else c;d;", "if (a) {\n\tb;\n} else c;\nd;"}, {"if(a)b;else{c;}", "if (a) b;\nelse {\n\tc;\n}"}, {"if(a);else;", "if (a);\nelse;"},
		{"if(a)b;else if(c){d;}else{e;}", "if (a) b;\nelse if (c) {\n\td;\n} else {\n\te;\n}"}, {"if(a)if(b)c;else d;", "if (a) if (b) c;\nelse d;"},
		{"if(a){if(b)c;}else d;", "if (a) {\n\tif (b) c;\n} else d;"}, {"if(a)(b,c)=d;else(b,c)=e;", "if (a)(b, c) = d;\nelse (b, c) = e;"}, {"if(a)-b;", "if (a) -b;"},
		{"if((a,b)==c)return(a);", "if ((a, b) == c) return a;"},
		{"while(a);", "while (a);"}, {"while()b;", "while () b;"}, {"while(a){b;}", "while (a) {\n\tb;\n}"}, {"while(a)while(b){}", "while (a) while (b) {}"},
		{"do;while(a);", "do;\nwhile (a);"}, {"do{}while(a);", "do {} while (a);"}, {"do{b;}while(a);c;", "do {\n\tb;\n} while (a);\nc;"}, {"do b;while(a);", "do b;\nwhile (a);"},
		{"do{while(a){}while(b){}}while(c);", "do {\n\twhile (a) {}\n\twhile (b) {}\n} while (c);"}, {"do while(a){}while(b);", "do while (a) {} while (b);"},
		{"do if(a){}while(b);while(c);", "do if (a) {} while (b);\nwhile (c);"}, {"{}while(a){}", "{}\nwhile (a) {}"}, {"do do{}while(a);while(b);", "do do {} while (a);\nwhile (b);"},
		{"do(a,b)=c;while(d);", "do (a, b) = c;\nwhile (d);"},
		{"for(;;);", "for (;;);"}, {"for(;;)a[i:j]=b[:];", "for (;;) a[i:j] = b[:];"}, {"for(i=0;i<9;i++){a;}", "for (i = 0; i < 9; i++) {\n\ta;\n}"},
		{"for(a;;)b;", "for (a;;) b;"}, {"for(;a;)b;", "for (; a;) b;"}, {"for(;;a)b;", "for (;; a) b;"}, {"for(l=list of{1};;){}", "for (l = list of { 1 };;) {}"},
		{"l:while(a);", "l: while (a);"}, {"l:{}", "l: {}"}, {"l:{a;}", "l: {\n\ta;\n}"}, {"l:do{}while(a);", "l: do {} while (a);"}, {"l:for(;;){break l;}", "l: for (;;) {\n\tbreak l;\n}"},
	} {
		isStmt(t, x[0], x[1])
	}
}

// P7.1: statements with arms.
func TestArms(t *testing.T) {
	for _, x := range [][2]string{
		{"case x{}", "case x {}"}, {"case(x){1=>}", "case x {\n\t1 =>\n}"}, {"case x{1 or* =>;}", "case x {\n\t1 or * =>\n\t;\n}"},
		{"case x{1 or 3 to 5=>y++;a;2=>* =>{}}", "case x {\n\t1 or 3 to 5 =>\n\ty++;\n\ta;\n\t2 =>\n\t* =>\n\t{}\n}"},
		{"case(a,b){(1)to(2,3)=>{a;}b;}", "case (a, b) {\n\t1 to (2, 3) =>\n\t{\n\t\ta;\n\t}\n\tb;\n}"}, {"case a{(b=1)to(c=2)=>}", "case a {\n\tb = 1 to c = 2 =>\n}"},
		{"case list of{1}{}", "case list of { 1 } {}"}, {`case s{"a"to"b"=>list of{1};}c;`, "case s {\n\t\"a\" to \"b\" =>\n\tlist of { 1 };\n}\nc;"},
		{"l:case x{}", "l: case x {}"}, {"alt{}", "alt {}"}, {"alt{x:=<-c=>a;c<-=1=>* =>b;}", "alt {\n\tx := <-c =>\n\ta;\n\tc <-= 1 =>\n\t* =>\n\tb;\n}"},
		{"alt{<-c=>alt{* =>}}", "alt {\n\t<-c =>\n\talt {\n\t\t* =>\n\t}\n}"},
		{"pick p:=q{}", "pick p := q {}"}, {"pick p:=(a,b){X or Y=>a;Z=>* =>b;}", "pick p := (a, b) {\n\tX or Y =>\n\ta;\n\tZ =>\n\t* =>\n\tb;\n}"},
		{"{}exception{}", "{} exception {}"}, {"{}exception e{}a;", "{} exception e {}\na;"}, {"l:{}exception{}", "l: {} exception {}"},
		{`{a;}exception e{"x*"or* =>b;"y"=>}c;`, "{\n\ta;\n} exception e {\n\t\"x*\" or * =>\n\tb;\n\t\"y\" =>\n}\nc;"},
		{"if(a){}exception{}else{}", "if (a) {} exception {} else {}"}, {"do{}exception e{}while(a);", "do {} exception e {} while (a);"},
		{"while(a)case b{1=>}while(c);", "while (a) case b {\n\t1 =>\n}\nwhile (c);"}, {"do case b{1=>}while(c);", "do case b {\n\t1 =>\n} while (c);"},
	} {
		isStmt(t, x[0], x[1])
	}
}
