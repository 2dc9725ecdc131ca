package number_test

import (
	"math"
	"math/big"
	"strconv"
	"strings"
	"testing"

	"acheron/api"
	"acheron/number"
)

// P4.5: integers.
func TestTextIntegers(t *testing.T) {
	for _, kind := range integers() {
		for _, n := range someNumbers() {
			want := whole(wrap(kind, n)).String()
			if s, e := number.Text(kind, n); s != want || e != api.OK {
				t.Errorf("Text(%d, %d): %q, %v, want %q", kind, n, s, e, want)
			}
		}
	}
}

// powerOf is the power of ten of the first digit of a number above 0.
func powerOf(x *big.Rat) int {
	approx, _ := x.Float64()
	power := int(math.Floor(math.Log10(approx))) + 1
	for x.Cmp(tenTo(power)) < 0 {
		power--
	}
	return power
}

// rounding is a number above 0, rounded to d digits: the digits, and the power of ten of the first one.
func rounding(x *big.Rat, power, d int) (string, int) {
	q := new(big.Rat).Quo(x, tenTo(power-d+1))
	n, rest := new(big.Int).QuoRem(q.Num(), q.Denom(), new(big.Int))
	half := rest.Lsh(rest, 1).Cmp(q.Denom())
	if half > 0 || half == 0 && n.Bit(0) == 1 {
		n.Add(n, whole(1))
	}
	if s := n.String(); len(s) > d {
		return s[:d], power + 1
	}
	return n.String(), power
}

func tenTo(e int) *big.Rat {
	n := new(big.Int).Exp(whole(10), whole(int64(max(e, -e))), nil)
	r := new(big.Rat).SetInt(n)
	if e < 0 {
		r.Inv(r)
	}
	return r
}

// realText is the text of a real above 0, as the document says it.
func realText(x float64) string {
	exactly := new(big.Rat).SetFloat64(x)
	power := powerOf(exactly)
	for d := 1; d <= 17; d++ {
		s, e := rounding(exactly, power, d)
		n, _ := new(big.Int).SetString(s, 10)
		r := new(big.Rat).SetInt(n)
		back, _ := r.Mul(r, tenTo(e-d+1)).Float64()
		if back == x {
			return layout(strings.TrimRight(s, "0"), e)
		}
	}
	return "no text"
}

func layout(s string, e int) string {
	if e >= -5 && e < 0 {
		return "0." + strings.Repeat("0", -e-1) + s
	}
	if e >= 0 && e <= 20 {
		for len(s) < e+1 {
			s += "0"
		}
		return strings.TrimSuffix(s[:e+1]+"."+s[e+1:], ".")
	}
	sign := "+"
	if e < 0 {
		sign, e = "-", -e
	}
	return strings.TrimSuffix(s[:1]+"."+s[1:], ".") + "e" + sign + strconv.Itoa(e)
}

// P4.5: reals of all sizes against the document's words.
func TestTextReals(t *testing.T) {
	for _, x := range append(someReals(), manyReals()...) {
		if !(x > 0) || math.IsInf(x, 1) {
			continue
		}
		want := realText(x)
		if s, e := number.Text(api.TReal, bits(x)); s != want || e != api.OK {
			t.Errorf("Text of %v: %q, %v, want %q", x, s, e, want)
		}
		if s, e := number.Text(api.TReal, bits(-x)); s != "-"+want || e != api.OK {
			t.Errorf("Text of %v: %q, %v, want -%s", -x, s, e, want)
		}
	}
}

// P4.5: the chapter's examples; each form and its bounds; the few digits that a real has when it is rounded, which need
// not be the fewest ones that are read as it (of 2^-44), and which end even between two (of ...56.25).
func TestTextExamples(t *testing.T) {
	for _, x := range []struct {
		x    float64
		want string
	}{
		{math.NaN(), "NaN"}, {math.Inf(1), "Infinity"}, {math.Inf(-1), "-Infinity"}, {0, "0"},
		{math.Copysign(0, -1), "-0"}, {0.1, "0.1"}, {0.1 + float64(0.2), "0.30000000000000004"}, {1, "1"}, {-1.5, "-1.5"},
		{150, "150"}, {1e21, "1e+21"}, {1.5e-7, "1.5e-7"}, {0.00001, "0.00001"}, {0.000012, "0.000012"},
		{0.0000099, "9.9e-6"}, {1e-6, "1e-6"}, {5e-324, "5e-324"}, {1 << 70, "1.1805916207174113e+21"},
		{1e20, "100000000000000000000"}, {123456789012345680000, "123456789012345680000"},
		{999999999999999900000, "999999999999999900000"}, {1e100, "1e+100"}, {-1.25e-10, "-1.25e-10"},
		{math.MaxFloat64, "1.7976931348623157e+308"}, {2.2250738585072014e-308, "2.2250738585072014e-308"},
		{1.0 / (1 << 44), "5.6843418860808015e-14"}, {9007199254740993, "9007199254740992"},
		{1234567890123456.25, "1234567890123456.2"}, {1234567890123456.75, "1234567890123456.8"},
		{123456.75, "123456.75"}, {100.5, "100.5"}, {1e15, "1000000000000000"},
	} {
		if s, e := number.Text(api.TReal, bits(x.x)); s != x.want || e != api.OK {
			t.Errorf("Text of %v: %q, %v, want %q", x.x, s, e, x.want)
		}
	}
	for _, n := range []int64{-1, bits(math.Inf(1)) + 1, bits(math.Inf(-1)) + 1} {
		if s, e := number.Text(api.TReal, n); s != "NaN" || e != api.OK {
			t.Errorf("Text of the NaN %x: %q, %v", n, s, e)
		}
	}
}
