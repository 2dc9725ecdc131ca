package number_test

import (
	"testing"

	"acheron/api"
	"acheron/number"
)

// All functions: what is no kind of numbers, which counts before a wrong operator and a divisor 0.
func TestKinds(t *testing.T) {
	for _, kind := range notKinds() {
		if n, e := number.Wrap(kind, 5); n != 0 || e != api.ErrKind {
			t.Errorf("Wrap(%d): %d, %v", kind, n, e)
		}
		if n, e := number.One(kind); n != 0 || e != api.ErrKind {
			t.Errorf("One(%d): %d, %v", kind, n, e)
		}
		for _, op := range append(notOps(), api.OpAdd, api.OpDiv, api.OpEq, api.OpNeg, api.OpIsNot) {
			if n, e := number.Arith(kind, op, 5, 0); n != 0 || e != api.ErrKind {
				t.Errorf("Arith(%d, %d): %d, %v", kind, op, n, e)
			}
			if n, e := number.Unary(kind, op, 5); n != 0 || e != api.ErrKind {
				t.Errorf("Unary(%d, %d): %d, %v", kind, op, n, e)
			}
			if is, e := number.Compare(kind, op, 5, 5); is || e != api.ErrKind {
				t.Errorf("Compare(%d, %d): %v, %v", kind, op, is, e)
			}
		}
		for _, other := range append(kinds(), api.TString) {
			if n, e := number.Convert(kind, other, 5); n != 0 || e != api.ErrKind {
				t.Errorf("Convert(%d, %d): %d, %v", kind, other, n, e)
			}
			if n, e := number.Convert(other, kind, 5); n != 0 || e != api.ErrKind {
				t.Errorf("Convert(%d, %d): %d, %v", other, kind, n, e)
			}
		}
		if s, e := number.Text(kind, 5); s != "" || e != api.ErrKind {
			t.Errorf("Text(%d): %q, %v", kind, s, e)
		}
		if n, e := number.Parse(kind, "5"); n != 0 || e != api.ErrKind {
			t.Errorf("Parse(%d): %d, %v", kind, n, e)
		}
	}
}

// All functions: operators that are not named for a kind, which count before a divisor 0.
func TestOps(t *testing.T) {
	all := notOps()
	for op := api.OpAdd; op <= api.OpIsNot; op++ {
		all = append(all, op)
	}
	for _, kind := range kinds() {
		for _, op := range all {
			arith := op >= api.OpAdd && op <= api.OpShr && (kind != api.TReal || op <= api.OpDiv)
			if n, e := number.Arith(kind, op, 5, 0); !arith && (n != 0 || e != api.ErrForm) || arith && e == api.ErrForm {
				t.Errorf("Arith(%d, %d): %d, %v", kind, op, n, e)
			}
			unary := op == api.OpNeg || op == api.OpNot && kind != api.TReal || op == api.OpIsNot && kind == api.TInt
			if n, e := number.Unary(kind, op, 5); !unary && (n != 0 || e != api.ErrForm) || unary && e != api.OK {
				t.Errorf("Unary(%d, %d): %d, %v", kind, op, n, e)
			}
			compare := op >= api.OpEq && op <= api.OpGe
			if is, e := number.Compare(kind, op, 5, 5); !compare && (is || e != api.ErrForm) || compare && e != api.OK {
				t.Errorf("Compare(%d, %d): %v, %v", kind, op, is, e)
			}
		}
	}
}

// tool calls functions that must not have an error.
type tool struct{ t *testing.T }

func (x tool) arith(kind, op int, a, b int64) int64 {
	n, e := number.Arith(kind, op, a, b)
	if e != api.OK {
		x.t.Fatalf("Arith(%d, %d, %d, %d): error %v", kind, op, a, b, e)
	}
	return n
}

func (x tool) compare(kind, op int, a, b int64) bool {
	is, e := number.Compare(kind, op, a, b)
	if e != api.OK {
		x.t.Fatalf("Compare(%d, %d, %d, %d): error %v", kind, op, a, b, e)
	}
	return is
}

func (x tool) convert(from, to int, n int64) int64 {
	n, e := number.Convert(from, to, n)
	if e != api.OK {
		x.t.Fatalf("Convert(%d, %d, %d): error %v", from, to, n, e)
	}
	return n
}

func (x tool) text(kind int, n int64) string {
	s, e := number.Text(kind, n)
	if e != api.OK {
		x.t.Fatalf("Text(%d, %d): error %v", kind, n, e)
	}
	return s
}

func (x tool) parse(kind int, s string) int64 {
	n, e := number.Parse(kind, s)
	if e != api.OK {
		x.t.Fatalf("Parse(%d, %q): error %v", kind, s, e)
	}
	return n
}

// P4.7: sums, products, quotients and shifts of integers.
func TestIntegerConsequences(t *testing.T) {
	x := tool{t}
	for _, kind := range integers() {
		for _, a := range someNumbers() {
			for k := range width(kind) {
				power := wrap(kind, 1<<k)
				if x.arith(kind, api.OpShl, a, int64(k)) != x.arith(kind, api.OpMul, a, power) {
					t.Errorf("kind %d: %d shifted by %d is not its multiple", kind, a, k)
				}
			}
			for _, b := range someNumbers() {
				for _, op := range []int{api.OpAdd, api.OpMul} {
					if x.arith(kind, op, a, b) != x.arith(kind, op, b, a) {
						t.Errorf("kind %d: %d op %d depends on the order with %d", kind, a, op, b)
					}
				}
				if x.arith(kind, api.OpAdd, x.arith(kind, api.OpSub, a, b), b) != wrap(kind, a) {
					t.Errorf("kind %d: %d - %d + %d is another number", kind, a, b, b)
				}
				if wrap(kind, b) == 0 {
					continue
				}
				product := x.arith(kind, api.OpMul, x.arith(kind, api.OpDiv, a, b), b)
				if x.arith(kind, api.OpAdd, product, x.arith(kind, api.OpMod, a, b)) != wrap(kind, a) {
					t.Errorf("kind %d: (%d / %d) * %d + %d %% %d is another number", kind, a, b, b, a, b)
				}
			}
		}
	}
}

// P4.7: exactly one of <, = and > holds, and <= is one of the first two.
func TestOrder(t *testing.T) {
	x := tool{t}
	for _, kind := range kinds() {
		l := someNumbers()
		for _, r := range someReals() {
			l = append(l, bits(r))
		}
		for _, a := range l {
			for _, b := range l {
				less, same := x.compare(kind, api.OpLt, a, b), x.compare(kind, api.OpEq, a, b)
				hold := 0
				for _, is := range []bool{less, same, x.compare(kind, api.OpGt, a, b)} {
					if is {
						hold++
					}
				}
				want := 1
				if kind == api.TReal && (wrap(kind, a) == nan || wrap(kind, b) == nan) {
					want = 0
				}
				if hold != want || x.compare(kind, api.OpLe, a, b) != (less || same) {
					t.Errorf("kind %d: %d and %d: less %v, equal %v, %d hold", kind, a, b, less, same, hold)
				}
			}
		}
	}
}

// P4.7: an int to a big or a real and back; a byte to any kind and back.
func TestThereAndBack(t *testing.T) {
	x := tool{t}
	for _, n := range someNumbers() {
		for _, to := range []int{api.TInt, api.TBig, api.TReal} {
			if got := x.convert(to, api.TInt, x.convert(api.TInt, to, n)); got != wrap(api.TInt, n) {
				t.Errorf("the int %d by kind %d is %d", n, to, got)
			}
		}
	}
	for n := range int64(256) {
		for _, to := range kinds() {
			if got := x.convert(to, api.TByte, x.convert(api.TByte, to, n)); got != n {
				t.Errorf("the byte %d by kind %d is %d", n, to, got)
			}
		}
	}
}

// P4.7: the Text of a number is read as it.
func TestTextThereAndBack(t *testing.T) {
	x := tool{t}
	for _, kind := range kinds() {
		for _, n := range someNumbers() {
			if got := x.parse(kind, x.text(kind, n)); got != wrap(kind, n) {
				t.Errorf("kind %d: %d is read as %d", kind, n, got)
			}
		}
	}
	for _, r := range append(someReals(), manyReals()...) {
		for _, n := range []int64{bits(r), bits(-r)} {
			if got := x.parse(api.TReal, x.text(api.TReal, n)); got != wrap(api.TReal, n) {
				t.Errorf("%v (%x) is read as %x", float(n), n, got)
			}
		}
	}
}
