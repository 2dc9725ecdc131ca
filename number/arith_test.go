package number_test

import (
	"math"
	"math/big"
	"testing"

	"acheron/api"
	"acheron/number"
)

// P4.1: all numbers of all kinds.
func TestWrap(t *testing.T) {
	for _, kind := range kinds() {
		for _, n := range someNumbers() {
			if got, e := number.Wrap(kind, n); got != wrap(kind, n) || e != api.OK {
				t.Errorf("Wrap(%d, %d): %d, %v, want %d", kind, n, got, e, wrap(kind, n))
			}
		}
	}
	for _, x := range []struct {
		kind    int
		n, want int64
	}{
		{api.TByte, -1, 255}, {api.TByte, 256, 0}, {api.TByte, 255, 255}, {api.TByte, 1<<32 + 7, 7},
		{api.TInt, 1 << 31, -1 << 31}, {api.TInt, -1<<31 - 1, 1<<31 - 1}, {api.TInt, 1<<32 - 1, -1},
		{api.TBig, math.MinInt64, math.MinInt64}, {api.TReal, 5, 5}, {api.TReal, -1 << 63, -1 << 63},
	} {
		if got, e := number.Wrap(x.kind, x.n); got != x.want || e != api.OK {
			t.Errorf("Wrap(%d, %d): %d, %v, want %d", x.kind, x.n, got, e, x.want)
		}
	}
}

// P4.1: any NaN, quiet or signaling, of either sign; the infinities beside them are none.
func TestWrapNaN(t *testing.T) {
	inf := bits(math.Inf(1))
	for _, n := range []int64{inf + 1, inf + 2, inf + 1<<51 - 1, inf + 1<<51, nan, inf + 1<<52 - 1} {
		for _, n := range []int64{n, n | math.MinInt64} {
			if got, e := number.Wrap(api.TReal, n); got != nan || e != api.OK {
				t.Errorf("Wrap of the NaN %x: %x, %v", n, got, e)
			}
		}
	}
	for _, n := range []int64{inf, inf - 1, bits(math.Inf(-1)), bits(math.Inf(-1)) - 1} {
		if got, e := number.Wrap(api.TReal, n); got != n || e != api.OK {
			t.Errorf("Wrap of %x: %x, %v", n, got, e)
		}
	}
}

// P4.1: the number 1.
func TestOne(t *testing.T) {
	for _, kind := range integers() {
		if n, e := number.One(kind); n != 1 || e != api.OK {
			t.Errorf("One(%d): %d, %v", kind, n, e)
		}
	}
	if n, e := number.One(api.TReal); n != 0x3FF0000000000000 || e != api.OK {
		t.Errorf("One(TReal): %x, %v", n, e)
	}
}

// exact is a op b of whole numbers, before it is wrapped; nil if b is a divisor 0.
func exact(kind, op int, a, b *big.Int) *big.Int {
	n := new(big.Int)
	switch op {
	case api.OpAdd:
		return n.Add(a, b)
	case api.OpSub:
		return n.Sub(a, b)
	case api.OpMul:
		return n.Mul(a, b)
	case api.OpAnd:
		return n.And(a, b)
	case api.OpOr:
		return n.Or(a, b)
	case api.OpXor:
		return n.Xor(a, b)
	case api.OpDiv, api.OpMod:
		if b.Sign() == 0 {
			return nil
		}
		if op == api.OpDiv {
			return n.Quo(a, b)
		}
		return n.Rem(a, b)
	}
	return shifted(kind, op, a, b.Int64())
}

// shifted is a, of the kind, shifted by an int, as the document says it.
func shifted(kind, op int, a *big.Int, b int64) *big.Int {
	switch {
	case b >= 0 && b < int64(width(kind)) && op == api.OpShl:
		return new(big.Int).Lsh(a, uint(b))
	case b >= 0 && b < int64(width(kind)):
		return new(big.Int).Rsh(a, uint(b)) // downwards, as copies of the sign come in
	case op == api.OpShr && a.Sign() < 0:
		return whole(-1)
	}
	return whole(0)
}

// P4.2: all operators of integers, also of numbers that must be wrapped first.
func TestArithIntegers(t *testing.T) {
	for _, kind := range integers() {
		for op := api.OpAdd; op <= api.OpShr; op++ {
			second := kind
			if op == api.OpShl || op == api.OpShr {
				second = api.TInt
			}
			for _, a := range someNumbers() {
				for _, b := range someNumbers() {
					want, wrong := int64(0), api.OK
					n := exact(kind, op, whole(wrap(kind, a)), whole(wrap(second, b)))
					if n == nil {
						wrong = api.ErrRange
					} else {
						want = wrapped(kind, n)
					}
					if got, e := number.Arith(kind, op, a, b); got != want || e != wrong {
						t.Fatalf("Arith(%d, %d, %d, %d): %d, %v, want %d, %v", kind, op, a, b, got, e, want, wrong)
					}
				}
			}
		}
	}
}

// P4.2: each count of a shift, and what lies beyond both bounds; the count is wrapped as an int, whatever the kind.
func TestShifts(t *testing.T) {
	for _, kind := range integers() {
		for _, a := range someNumbers() {
			for b := int64(-70); b <= 300; b++ {
				for _, count := range []int64{b, b + 1<<32, b - 1<<40} {
					for _, op := range []int{api.OpShl, api.OpShr} {
						want := wrapped(kind, shifted(kind, op, whole(wrap(kind, a)), b))
						if got, e := number.Arith(kind, op, a, count); got != want || e != api.OK {
							t.Fatalf("Arith(%d, %d, %d, %d): %d, %v, want %d", kind, op, a, count, got, e, want)
						}
					}
				}
			}
		}
	}
}

// P4.2: the chapter's examples, and others of its words.
func TestArithExamples(t *testing.T) {
	for _, x := range []struct {
		kind, op   int
		a, b, want int64
		e          api.Errno
	}{
		{api.TByte, api.OpSub, 3, 5, 254, api.OK},
		{api.TInt, api.OpMul, 65536, 65536, 0, api.OK},
		{api.TInt, api.OpDiv, -7, 2, -3, api.OK},
		{api.TInt, api.OpMod, -7, 2, -1, api.OK},
		{api.TInt, api.OpMod, 7, -2, 1, api.OK},
		{api.TInt, api.OpMod, -6, 2, 0, api.OK},
		{api.TInt, api.OpDiv, -2147483648, -1, -2147483648, api.OK},
		{api.TInt, api.OpMod, -2147483648, -1, 0, api.OK},
		{api.TBig, api.OpDiv, math.MinInt64, -1, math.MinInt64, api.OK},
		{api.TBig, api.OpMod, math.MinInt64, -1, 0, api.OK},
		{api.TByte, api.OpDiv, 5, 0, 0, api.ErrRange},
		{api.TByte, api.OpDiv, 5, 256, 0, api.ErrRange},
		{api.TInt, api.OpMod, 5, 1 << 32, 0, api.ErrRange},
		{api.TBig, api.OpDiv, 5, 1 << 32, 0, api.OK},
		{api.TBig, api.OpDiv, 1, 0, 0, api.ErrRange},
		{api.TBig, api.OpMod, 1, 0, 0, api.ErrRange},
		{api.TInt, api.OpShr, -5, 1, -3, api.OK},
		{api.TInt, api.OpShr, -5, 40, -1, api.OK},
		{api.TInt, api.OpShr, 5, 40, 0, api.OK},
		{api.TInt, api.OpShr, -5, -1, -1, api.OK},
		{api.TBig, api.OpShr, -5, 64, -1, api.OK},
		{api.TByte, api.OpShr, 255, 8, 0, api.OK},
		{api.TByte, api.OpShr, 255, -1, 0, api.OK},
		{api.TByte, api.OpShr, 129, 7, 1, api.OK},
		{api.TInt, api.OpShl, 1, 32, 0, api.OK},
		{api.TInt, api.OpShl, 1, 31, -1 << 31, api.OK},
		{api.TBig, api.OpShl, 1, 32, 1 << 32, api.OK},
		{api.TBig, api.OpShl, 1, 64, 0, api.OK},
		{api.TByte, api.OpShl, 129, 1, 2, api.OK},
		{api.TByte, api.OpShl, 1, 256, 0, api.OK},
		{api.TByte, api.OpShl, 1, 1 << 32, 1, api.OK},
		{api.TInt, api.OpShl, 1, -1, 0, api.OK},
	} {
		if n, e := number.Arith(x.kind, x.op, x.a, x.b); n != x.want || e != x.e {
			t.Errorf("Arith(%d, %d, %d, %d): %d, %v, want %d, %v", x.kind, x.op, x.a, x.b, n, e, x.want, x.e)
		}
	}
}

// P4.2: operators of reals, each against the exact result, rounded once.
func TestArithReals(t *testing.T) {
	for _, a := range someReals() {
		for _, b := range someReals() {
			if a-a != 0 || b-b != 0 {
				continue // of an infinity, or NaN
			}
			for _, op := range []int{api.OpAdd, api.OpSub, api.OpMul, api.OpDiv} {
				r := new(big.Rat)
				x, y := new(big.Rat).SetFloat64(a), new(big.Rat).SetFloat64(b)
				switch {
				case op == api.OpAdd:
					r.Add(x, y)
				case op == api.OpSub:
					r.Sub(x, y)
				case op == api.OpMul:
					r.Mul(x, y)
				case b != 0:
					r.Quo(x, y)
				}
				want, _ := r.Float64()
				if r.Sign() == 0 {
					continue // a zero with a sign, or a division by 0: see TestArithSpecial
				}
				if n, e := number.Arith(api.TReal, op, bits(a), bits(b)); float(n) != want || e != api.OK {
					t.Fatalf("Arith(TReal, %d) of %v and %v: %v, %v, want %v", op, a, b, float(n), e, want)
				}
			}
		}
	}
}

// P4.2: the zeros, the infinities and NaN.
func TestArithSpecial(t *testing.T) {
	inf, none, zero := math.Inf(1), math.NaN(), math.Copysign(0, -1)
	for _, x := range []struct {
		op         int
		a, b, want float64
	}{
		{api.OpAdd, 0, zero, 0}, {api.OpAdd, zero, zero, zero}, {api.OpAdd, 1, -1, 0}, {api.OpAdd, inf, -inf, none},
		{api.OpAdd, inf, inf, inf}, {api.OpAdd, none, 1, none}, {api.OpAdd, math.MaxFloat64, math.MaxFloat64, inf},
		{api.OpSub, 0, 0, 0}, {api.OpSub, zero, 0, zero}, {api.OpSub, inf, inf, none}, {api.OpSub, 1, inf, -inf},
		{api.OpMul, 0, -1, zero}, {api.OpMul, zero, zero, 0}, {api.OpMul, 0, inf, none}, {api.OpMul, -1, inf, -inf},
		{api.OpMul, 5e-324, 0.5, 0}, {api.OpMul, 5e-324, -0.5, zero}, {api.OpMul, none, 0, none},
		{api.OpDiv, 1, 0, inf}, {api.OpDiv, -1, 0, -inf}, {api.OpDiv, 1, zero, -inf}, {api.OpDiv, 0, 0, none},
		{api.OpDiv, zero, 0, none}, {api.OpDiv, 0, -5, zero}, {api.OpDiv, 1, -inf, zero}, {api.OpDiv, inf, inf, none},
		{api.OpDiv, inf, 0, inf}, {api.OpDiv, 0, inf, 0}, {api.OpDiv, none, none, none},
	} {
		want := wrap(api.TReal, bits(x.want))
		if n, e := number.Arith(api.TReal, x.op, bits(x.a), bits(x.b)); n != want || e != api.OK {
			t.Errorf("Arith(TReal, %d) of %v and %v: %x, %v, want %x", x.op, x.a, x.b, n, e, want)
		}
	}
	for _, odd := range []int64{-1, bits(inf) + 1, -1 << 51} {
		if n, e := number.Arith(api.TReal, api.OpAdd, odd, bits(1)); n != nan || e != api.OK {
			t.Errorf("Arith of the NaN %x: %x, %v", odd, n, e)
		}
	}
}

// P4.2: the operators of one number.
func TestUnary(t *testing.T) {
	for _, n := range someNumbers() {
		for _, kind := range integers() {
			a := whole(wrap(kind, n))
			want := wrapped(kind, new(big.Int).Neg(a))
			if got, e := number.Unary(kind, api.OpNeg, n); got != want || e != api.OK {
				t.Errorf("Unary(%d, OpNeg, %d): %d, %v, want %d", kind, n, got, e, want)
			}
			want = wrapped(kind, new(big.Int).Not(a))
			if got, e := number.Unary(kind, api.OpNot, n); got != want || e != api.OK {
				t.Errorf("Unary(%d, OpNot, %d): %d, %v, want %d", kind, n, got, e, want)
			}
		}
		is := int64(0)
		if n%(1<<32) == 0 {
			is = 1
		}
		if got, e := number.Unary(api.TInt, api.OpIsNot, n); got != is || e != api.OK {
			t.Errorf("Unary(TInt, OpIsNot, %d): %d, %v, want %d", n, got, e, is)
		}
		other := wrap(api.TReal, n^math.MinInt64)
		if got, e := number.Unary(api.TReal, api.OpNeg, n); got != other || e != api.OK {
			t.Errorf("Unary(TReal, OpNeg, %x): %x, %v, want %x", n, got, e, other)
		}
	}
	for _, x := range []struct {
		kind, op int
		n, want  int64
	}{
		{api.TByte, api.OpNeg, 1, 255}, {api.TByte, api.OpNeg, 0, 0}, {api.TByte, api.OpNot, 1, 254},
		{api.TInt, api.OpNeg, -1 << 31, -1 << 31}, {api.TInt, api.OpNot, 0, -1}, {api.TInt, api.OpIsNot, 1 << 32, 1},
		{api.TInt, api.OpIsNot, 256, 0}, {api.TInt, api.OpIsNot, -1, 0}, {api.TBig, api.OpNeg, -1 << 63, -1 << 63},
		{api.TReal, api.OpNeg, 0, -1 << 63}, {api.TReal, api.OpNeg, -1 << 63, 0}, {api.TReal, api.OpNeg, nan, nan},
		{api.TReal, api.OpNeg, bits(math.Inf(1)), bits(math.Inf(-1))},
	} {
		if got, e := number.Unary(x.kind, x.op, x.n); got != x.want || e != api.OK {
			t.Errorf("Unary(%d, %d, %d): %d, %v, want %d", x.kind, x.op, x.n, got, e, x.want)
		}
	}
}

func holds(op, order int) bool {
	switch op {
	case api.OpEq:
		return order == 0
	case api.OpNe:
		return order != 0
	case api.OpLt:
		return order < 0
	case api.OpLe:
		return order <= 0
	case api.OpGt:
		return order > 0
	}
	return order >= 0
}

// P4.3: integers, wrapped first.
func TestCompareIntegers(t *testing.T) {
	for _, kind := range integers() {
		for op := api.OpEq; op <= api.OpGe; op++ {
			for _, a := range someNumbers() {
				for _, b := range someNumbers() {
					want := holds(op, whole(wrap(kind, a)).Cmp(whole(wrap(kind, b))))
					if got, e := number.Compare(kind, op, a, b); got != want || e != api.OK {
						t.Fatalf("Compare(%d, %d, %d, %d): %v, %v", kind, op, a, b, got, e)
					}
				}
			}
		}
	}
}

// P4.3: reals; the two zeros are equal, and with NaN only OpNe holds.
func TestCompareReals(t *testing.T) {
	for op := api.OpEq; op <= api.OpGe; op++ {
		for _, a := range someReals() {
			for _, b := range someReals() {
				want := op == api.OpNe
				if a == a && b == b {
					want = holds(op, big.NewFloat(a).Cmp(big.NewFloat(b)))
				}
				if got, e := number.Compare(api.TReal, op, bits(a), bits(b)); got != want || e != api.OK {
					t.Fatalf("Compare(TReal, %d) of %v and %v: %v, %v", op, a, b, got, e)
				}
			}
		}
	}
}
