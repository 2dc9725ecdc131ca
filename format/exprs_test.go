package format_test

import (
	"strings"
	"testing"
)

// P7.1: parentheses stand where the level of an expression is below the least one of its place, and nowhere else.
func TestLevels(t *testing.T) {
	inner := []struct {
		text  string
		level int
	}{
		{"a = b", 1}, {"a := b", 1}, {"a <-= b", 1}, {"a >>= b", 1}, {"a || b", 2}, {"a && b", 3}, {"a :: b", 4}, {"a | b", 5}, {"a ^ b", 6},
		{"a & b", 7}, {"a == b", 8}, {"a != b", 8}, {"a < b", 9}, {"a <= b", 9}, {"a > b", 9}, {"a >= b", 9}, {"a << b", 10}, {"a >> b", 10},
		{"a + b", 11}, {"a - b", 11}, {"a * b", 12}, {"a / b", 12}, {"a % b", 12}, {"hd a", 13}, {"tagof a", 13}, {"int a", 13}, {"string a", 13},
		{"array of byte a", 13}, {"load M a", 13}, {"ref P(a)", 13}, {"array[a] of int", 13}, {"array[a] of T", 13}, {"chan of T", 13}, {"a(b)", 14},
		{"a.b", 14}, {"a->b", 14}, {"a[b]", 14}, {"a[:]", 14}, {"a++", 14}, {"a--", 14}, {"a", 15}, {"1", 15}, {"1.5e+00", 15}, {`"s"`, 15}, {"nil", 15},
		{"iota", 15}, {"(a, b)", 15}, {"array[] of {}", 15}, {"array[] of { a }", 15}, {"list of { a }", 15},
	}
	outer := []struct {
		text  string
		least int
	}{
		{"X = c", 2}, {"c = X", 1}, {"X += c", 2}, {"c := X", 1}, {"X || c", 2}, {"c || X", 3}, {"X && c", 3}, {"c && X", 4}, {"X :: c", 5}, {"c :: X", 4},
		{"X | c", 5}, {"c | X", 6}, {"X ^ c", 6}, {"c ^ X", 7}, {"X & c", 7}, {"c & X", 8}, {"X == c", 8}, {"c == X", 9}, {"X != c", 8}, {"c != X", 9},
		{"X < c", 9}, {"c < X", 10}, {"X >= c", 9}, {"c >= X", 10}, {"X << c", 10}, {"c << X", 11}, {"X >> c", 10}, {"c >> X", 11}, {"X + c", 11},
		{"c + X", 12}, {"X - c", 11}, {"c - X", 12}, {"X * c", 12}, {"c * X", 13}, {"X / c", 12}, {"c / X", 13}, {"c % X", 13}, {"-X", 13}, {"!X", 13},
		{"<-X", 13}, {"++X", 13}, {"tl X", 13}, {"len X", 13}, {"real X", 13}, {"array of byte X", 13}, {"load c X", 13}, {"array[X] of int", 1},
		{"X.c", 14}, {"X->c", 14}, {"X[:c]", 14}, {"X++", 14}, {"X--", 14}, {"c(X)", 1}, {"c(c, X, c)", 1}, {"c[X]", 1}, {"c[X:]", 1}, {"c[:X]", 1},
		{"(X, c)", 1}, {"(c, X)", 1}, {"array[] of { X, c }", 1}, {"list of { X }", 1},
	}
	bare := func(text string) string { return strings.ReplaceAll(text, " ", "") } // spaces have tests of their own
	for _, o := range outer {
		for _, i := range inner {
			want := i.text
			if i.level < o.least {
				want = "(" + i.text + ")"
			}
			want = bare(strings.Replace(o.text, "X", want, 1))
			for _, many := range []int{1, 4} {
				text := strings.Replace(o.text, "X", strings.Repeat("(", many)+i.text+strings.Repeat(")", many), 1)
				if got := bare(expr(t, text)); got != want {
					t.Errorf("Expr of %q is %q, want %q", text, got, want)
				}
			}
		}
	}
}

// P7.1: parentheses of operators of one level, and of some that do without them.
func TestGroups(t *testing.T) {
	for _, x := range [][2]string{
		{"(a+b)*c", "(a + b) * c"}, {"a+(b*c)", "a + b * c"}, {"(a+b)*c :: (d::e)", "(a + b) * c :: d :: e"}, {"(a::b)::c", "(a :: b) :: c"},
		{"a-(b-c)", "a - (b - c)"}, {"(a-b)-c", "a - b - c"}, {"a=(b=c)", "a = b = c"}, {"(a=b)=c", "(a = b) = c"}, {"(a=b)+1", "(a = b) + 1"},
		{"a+(b=1)", "a + (b = 1)"}, {"a=b::(c||d)", "a = b :: (c || d)"}, {"(a<b)==(c<d)", "a < b == c < d"}, {"((a))", "a"}, {"((a, (b)))", "(a, b)"},
		{"-(-(a))", "- -a"}, {"(-a)+(-b)", "-a + -b"}, {"(-a)++", "(-a)++"}, {"-(a++)", "-a++"}, {"((a++)--)++", "a++--++"}, {"ref (P)(1)", "ref P(1)"},
		{"ref ((P(1)))", "ref P(1)"}, {"ref (hd l)(1)", "ref (hd l)(1)"}, {"(ref P(1)).x", "(ref P(1)).x"}, {"(array[n] of int)[0]", "(array[n] of int)[0]"},
		{"(array[(n)] of int) * 2", "array[n] of int * 2"}, {"array[n] of int", "array[n] of int"}, {"hd (tl (l))", "hd tl l"}, {"int (string (a))", "int string a"},
		{"(hd l)::(tl l)", "hd l :: tl l"}, {"(a.b)(c)", "a.b(c)"}, {"(a(b))(c)", "a(b)(c)"}, {"(a || b) && c", "(a || b) && c"},
	} {
		isExpr(t, x[0], x[1])
	}
}

// P7.1: one space, or none, between the pieces of an expression.
func TestSpaces(t *testing.T) {
	for _, x := range [][2]string{
		{"f ( )", "f()"}, {"f(a,b , c)", "f(a, b, c)"}, {"a [ 1 : ]", "a[1:]"}, {"a[ : ]", "a[:]"}, {"a[i:j]", "a[i:j]"}, {"a[:j]", "a[:j]"}, {"a[i+1:-j]", "a[i + 1:-j]"},
		{"a[i++:(b,c)]", "a[i++:(b, c)]"}, {"a[f(b)[:]:]", "a[f(b)[:]:]"}, {"a . b -> c", "a.b->c"}, {"a ++", "a++"}, {"++ a", "++a"}, {"a++ + ++b", "a++ + ++b"},
		{"a---b", "a-- - b"}, {"a-- ->b", "a--->b"}, {"- --a", "- --a"}, {"-(--a)", "- --a"}, {"--(-a)", "-- -a"}, {"++ ++a", "++ ++a"}, {"+ +a", "+ +a"},
		{"!~a", "! ~a"}, {"<-<-c", "<- <-c"}, {"-5", "-5"}, {`-"s"`, `-"s"`}, {"-nil", "-nil"}, {"-hd a", "-hd a"}, {"hd -a", "hd -a"}, {"-(a+b)", "-(a + b)"},
		{"-(a,b)", "-(a, b)"}, {"hd(a,b)", "hd (a, b)"}, {"-array[n] of int", "-array[n] of int"}, {"a<(-b)", "a < -b"}, {"a<-=<-d", "a <-= <-d"},
		{"string(a+b)", "string (a + b)"}, {"array of byte(a+b)", "array of byte (a + b)"}, {"load M(a+b)", "load M(a + b)"}, {"load M a", "load M a"},
		{`load M "/m"`, `load M "/m"`}, {"load M -a", "load M -a"}, {"array[]of{}", "array[] of {}"}, {"array [ ] of { 1 , 2 }", "array[] of { 1, 2 }"}, {"list of{ }", "list of {}"},
		{"list of {list of{1},array[]of{}}", "list of { list of { 1 }, array[] of {} }"}, {"list of {1}[0]", "list of { 1 } [0]"}, {"list of {1}(0)", "list of { 1 } (0)"},
		{"list of {1}.x", "list of { 1 }.x"}, {"array[] of {}[0]", "array[] of {} [0]"}, {"list of {1}++", "list of { 1 }++"}, {"list of {}->x", "list of {}->x"}, {"f(list of {1})", "f(list of { 1 })"},
		{"a[list of {1}:list of {2}]", "a[list of { 1 }:list of { 2 }]"}, {`"s"[0]`, `"s"[0]`}, {`"s" [:]`, `"s"[:]`}, {`"s"(0)`, `"s" (0)`}, {`"s".x`, `"s".x`}, {"5[0]", "5 [0]"}, {"5(0)", "5 (0)"},
		{"5 .x", "5.x"}, {"5->x", "5->x"}, {"5++", "5++"}, {"1.5[0]", "1.5e+00 [0]"}, {"1.5.x", "1.5e+00.x"}, {"5.e3", "5.e3"}, {"1e5++", "1e+05++"}, {"a++[0]", "a++ [0]"}, {"a++(0)", "a++ (0)"},
		{"iota[0]", "iota[0]"}, {"iota (0)", "iota(0)"}, {"nil[0]", "nil[0]"}, {"nil (0)", "nil(0)"}, {"nil.x", "nil.x"}, {"(a)(b)", "a(b)"}, {"(a+b)(c)[d](e)", "(a + b)(c)[d](e)"},
		{"(a,b)(c)", "(a, b)(c)"}, {"(a,b)[c]", "(a, b)[c]"}, {"((a,b),c)", "((a, b), c)"}, {"a*(b,c)", "a * (b, c)"}, {"f((a,b))", "f((a, b))"},
		{"chan of(int,list of T)", "chan of (int, list of T)"}, {"array[ n ]of(int,(T,ref P . X))", "array[n] of (int, (T, ref P.X))"}, {"array[n] of array of chan of int", "array[n] of array of chan of int"},
		{"chan of M -> T . X", "chan of M->T.X"}, {"ref M->P(1)", "ref M->P(1)"}, {"ref(hd l)(1)", "ref (hd l)(1)"}, {"x:=y", "x := y"}, {"(x,y):=(1,2)", "(x, y) := (1, 2)"},
		{"tagof(a.b)", "tagof a.b"}, {"len a[1:]", "len a[1:]"}, {"a>>b<<c", "a >> b << c"}, {"a||b&&c", "a || b && c"}, {"a|b^c&d", "a | b ^ c & d"},
	} {
		isExpr(t, x[0], x[1])
	}
}

// P7.1: numbers and strings.
func TestLiterals(t *testing.T) {
	for _, x := range [][2]string{
		{"0", "0"}, {"007", "7"}, {"16r1F", "31"}, {"9223372036854775807", "9223372036854775807"}, {"'a'", "97"}, {`'\n'`, "10"}, {"'\u00e9'", "233"},
		{"1.5", "1.5e+00"}, {"0.0", "0e+00"}, {"150.0e-1", "1.5e+01"}, {"1e300", "1e+300"}, {"0.1", "1e-01"}, {"5e-324", "5e-324"},
		{`"a b"`, `"a b"`}, {`""`, `""`}, {`"\u0041\u000a\'\"\\\u0001\0"`, `"A\n'\"\\\u0001\0"`}, {`"\u00e9"`, `"` + "\u00e9" + `"`},
	} {
		isExpr(t, x[0], x[1])
	}
}
