package number_test

import (
	"math"
	"math/big"
	"testing"

	"acheron/api"
	"acheron/number"
)

// P4.4: integers to integers, and to reals.
func TestConvertIntegers(t *testing.T) {
	for _, from := range integers() {
		for _, n := range someNumbers() {
			a := whole(wrap(from, n))
			for _, to := range integers() {
				if got, e := number.Convert(from, to, n); got != wrapped(to, a) || e != api.OK {
					t.Errorf("Convert(%d, %d, %d): %d, %v, want %d", from, to, n, got, e, wrapped(to, a))
				}
			}
			want, _ := new(big.Rat).SetInt(a).Float64()
			if got, e := number.Convert(from, api.TReal, n); got != bits(want) || e != api.OK {
				t.Errorf("Convert(%d, TReal, %d): %v, %v, want %v", from, n, float(got), e, want)
			}
		}
	}
}

// nearest is the integer nearest to a finite real, of two the one with the greater absolute value.
func nearest(x float64) *big.Int {
	r := new(big.Rat).SetFloat64(math.Abs(x))
	r.Add(r, big.NewRat(1, 2))
	n := new(big.Int).Quo(r.Num(), r.Denom())
	if x < 0 {
		n.Neg(n)
	}
	return n
}

// P4.4: reals to integers.
func TestConvertReals(t *testing.T) {
	for _, x := range append(someReals(), manyReals()...) {
		for _, to := range integers() {
			var want int64
			switch {
			case math.IsInf(x, 1):
				want = saturated(to, new(big.Int).Lsh(whole(1), 2000))
			case math.IsInf(x, -1):
				want = saturated(to, new(big.Int).Lsh(whole(-1), 2000))
			case x == x:
				want = saturated(to, nearest(x))
			}
			if got, e := number.Convert(api.TReal, to, bits(x)); got != want || e != api.OK {
				t.Errorf("Convert(TReal, %d) of %v: %d, %v, want %d", to, x, got, e, want)
			}
		}
	}
}

// P4.4: a real to a real stays, but any NaN is the one.
func TestConvertSame(t *testing.T) {
	for _, n := range append(someNumbers(), bits(math.Inf(1))+1, -1, -1<<63, bits(0.1)) {
		if got, e := number.Convert(api.TReal, api.TReal, n); got != wrap(api.TReal, n) || e != api.OK {
			t.Errorf("Convert(TReal, TReal, %x): %x, %v", n, got, e)
		}
	}
}

// P4.4: the chapter's examples, and others of its words.
func TestConvertExamples(t *testing.T) {
	for _, x := range []struct {
		from, to int
		n, want  int64
	}{
		{api.TReal, api.TInt, bits(2.5), 3},
		{api.TReal, api.TInt, bits(-2.5), -3},
		{api.TReal, api.TInt, bits(0.49999999999999994), 0},
		{api.TReal, api.TInt, bits(-0.5), -1},
		{api.TReal, api.TInt, bits(1e10), 2147483647},
		{api.TReal, api.TInt, bits(-1e10), -2147483648},
		{api.TReal, api.TInt, nan, 0},
		{api.TReal, api.TInt, -1, 0},
		{api.TReal, api.TBig, bits(1e10), 10000000000},
		{api.TReal, api.TBig, bits(1e19), math.MaxInt64},
		{api.TReal, api.TBig, bits(math.Inf(-1)), math.MinInt64},
		{api.TReal, api.TBig, bits(4503599627370497.5), 4503599627370498},
		{api.TInt, api.TByte, -1, 255},
		{api.TBig, api.TInt, 1 << 31, -1 << 31},
		{api.TInt, api.TBig, 1 << 31, -1 << 31},
		{api.TByte, api.TInt, -1, 255},
		{api.TReal, api.TByte, bits(300), 44},
		{api.TReal, api.TByte, bits(-1), 255},
		{api.TReal, api.TByte, bits(1e10), 255},
		{api.TReal, api.TByte, bits(-1e10), 0},
		{api.TBig, api.TReal, 1<<53 + 1, bits(1 << 53)},
		{api.TBig, api.TReal, 1<<53 + 3, bits(1<<53 + 4)},
		{api.TBig, api.TReal, math.MaxInt64, bits(1 << 63)},
		{api.TByte, api.TReal, 257, bits(1)},
	} {
		if got, e := number.Convert(x.from, x.to, x.n); got != x.want || e != api.OK {
			t.Errorf("Convert(%d, %d, %d): %d, %v, want %d", x.from, x.to, x.n, got, e, x.want)
		}
	}
}
