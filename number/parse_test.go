package number_test

import (
	"math"
	"math/big"
	"strconv"
	"strings"
	"testing"

	"acheron/api"
	"acheron/number"
)

// P4.6: integers of all sizes, with what may be before and behind them.
func TestParseIntegers(t *testing.T) {
	var texts []string
	for _, n := range someNumbers() {
		texts = append(texts, whole(n).String())
	}
	texts = append(texts, "9223372036854775808", "-9223372036854775809", "18446744073709551616",
		"18446744073709551615", "4294967296", "-4294967297", strings.Repeat("9", 400), "-"+strings.Repeat("9", 400),
		strings.Repeat("0", 400)+"12")
	for _, kind := range integers() {
		for _, s := range texts {
			n, _ := new(big.Int).SetString(s, 10)
			want := saturated(kind, n)
			for _, full := range []string{s, " " + s, "\t  \t" + s, s + "x", s + " 1", s + ".9", s + "e3", s + "-", s + "\xFF"} {
				if got, e := number.Parse(kind, full); got != want || e != api.OK {
					t.Errorf("Parse(%d, %q): %d, %v, want %d", kind, full, got, e, want)
				}
			}
		}
	}
}

// P4.6: the chapter's examples of integers, and texts without a number.
func TestParseIntegerExamples(t *testing.T) {
	for _, x := range []struct {
		kind int
		s    string
		want int64
	}{
		{api.TInt, "  -12ab", -12}, {api.TInt, "99999999999", 2147483647}, {api.TByte, "300", 44}, {api.TInt, "x", 0},
		{api.TInt, "-99999999999", -2147483648}, {api.TByte, "-1", 255}, {api.TByte, "99999999999", 255},
		{api.TByte, "-99999999999", 0}, {api.TInt, "+7", 7}, {api.TInt, "\t+007", 7}, {api.TBig, "99999999999", 99999999999},
		{api.TInt, "", 0}, {api.TInt, "-", 0}, {api.TInt, "+", 0}, {api.TInt, "- 5", 0}, {api.TInt, "+-5", 0},
		{api.TInt, "--5", 0}, {api.TInt, "\n5", 0}, {api.TInt, "\r5", 0}, {api.TInt, "\u00a05", 0}, {api.TInt, "1_000", 1},
		{api.TInt, "0x10", 0}, {api.TInt, ".5", 0}, {api.TInt, "5.7", 5}, {api.TInt, "1e3", 1}, {api.TInt, "Infinity", 0},
		{api.TInt, "٣", 0}, {api.TInt, "5 6", 5}, {api.TInt, "12\x003", 12},
	} {
		if got, e := number.Parse(x.kind, x.s); got != x.want || e != api.OK {
			t.Errorf("Parse(%d, %q): %d, %v, want %d", x.kind, x.s, got, e, x.want)
		}
	}
}

// P4.6: the chapter's examples of reals, each form, and the longest text that has it.
func TestParseRealExamples(t *testing.T) {
	inf, zero := math.Inf(1), math.Copysign(0, -1)
	for _, x := range []struct {
		s    string
		want float64
	}{
		{".5e", 0.5}, {"-Infinity!", -inf}, {"1e400", inf}, {".", 0}, {"5.e1", 50}, {"-0", zero}, {"+0", 0},
		{"Infinity", inf}, {"+Infinity", inf}, {" \t-Infinityx", -inf}, {"Infinit", 0}, {"-Infinit", 0}, {"infinity", 0},
		{"Inf", 0}, {"NaN", math.NaN()}, {"-NaN", math.NaN()}, {"+NaN1", math.NaN()}, {"nan", 0}, {"-nan", 0}, {"Na", 0},
		{"", 0}, {"-", 0}, {"+", 0}, {"-.", 0}, {"-x", 0}, {"-e5", 0}, {".e5", 0}, {"e5", 0}, {"- 1", 0}, {"--1", 0},
		{"\n1", 0}, {"\v1", 0}, {"5", 5}, {"5.", 5}, {".5", 0.5}, {"-.5", -0.5}, {"+.5", 0.5}, {"1.5.5", 1.5}, {"1..5", 1},
		{"..5", 0}, {"1.25x", 1.25}, {"1e2", 100}, {"1E2", 100}, {"1e+2", 100}, {"1e-2", 0.01}, {"1e", 1}, {"1e+", 1},
		{"1e-", 1}, {"1ex", 1}, {"1e 2", 1}, {"1e+-2", 1}, {"1e2e3", 100}, {"1e2.5", 100}, {"1.e", 1}, {"0e5", 0},
		{"-0e5", zero}, {"-.0", zero}, {"-0.", zero}, {"1e05", 1e5}, {"1e-400", 0}, {"-1e-400", zero}, {"-1e400", -inf},
		{"1_0", 1}, {"1_0.5", 1}, {"0x1p4", 0}, {"0x10", 0}, {"1,5", 1}, {"007.50", 7.5}, {"5e-324", 5e-324},
		{"2.4703282292062327e-324", 0}, {"2.4703282292062328e-324", 5e-324}, {"1.7976931348623157e308", math.MaxFloat64},
		{"1.7976931348623158e308", math.MaxFloat64}, {"1.7976931348623159e308", inf}, {"9007199254740993", 9007199254740992},
		{"9007199254740995", 9007199254740996}, {"9007199254740993.00000000000000000000001", 9007199254740994},
		{"99999999999", 99999999999}, {"1e99999999999999999999", inf}, {"1e-99999999999999999999", 0},
		{"0e99999999999999999999", 0}, {"-1e99999999999999999999", -inf}, {"1e9223372036854775807", inf},
		{"10e9223372036854775807", inf}, {"0.01e-9223372036854775808", 0}, {"٣", 0}, {"1\xFF", 1},
	} {
		want := wrap(api.TReal, bits(x.want))
		if got, e := number.Parse(api.TReal, x.s); got != want || e != api.OK {
			t.Errorf("Parse(TReal, %q): %v (%x), %v, want %v", x.s, float(got), got, e, x.want)
		}
	}
}

// P4.6: the sum and the mean of two neighbours, exactly and a little more or less, however they are written.
func TestParseBetween(t *testing.T) {
	d := dice(23)
	for range 400 {
		x := float(d.next() & math.MaxInt64 % (0x7FE << 52))
		low, high := new(big.Rat).SetFloat64(x), new(big.Rat).SetFloat64(math.Nextafter(x, math.Inf(1)))
		mean := low.Add(low, high)
		mean.Mul(mean, big.NewRat(1, 2))
		s := mean.FloatString(1100) // all digits: no real, and no mean of two, has more behind the point
		digits := strings.TrimRight(s, "0")
		for _, text := range []string{s, digits, digits + "0001", digits + strings.Repeat("0", 900) + "1"} {
			checkReal(t, text)
		}
		last := len(digits) - 1
		for last > 0 && (digits[last] == '0' || digits[last] == '.') {
			last--
		}
		less := digits[:last] + string(rune(digits[last]-1)) + digits[last+1:]
		checkReal(t, less)
		before, behind, _ := strings.Cut(digits, ".")
		checkReal(t, before+behind+"e-"+strconv.Itoa(len(behind)))
		checkReal(t, "."+before+behind+"e"+strconv.Itoa(len(before)))
		checkReal(t, before+behind+strings.Repeat("0", 2000)+"e-"+strconv.Itoa(len(behind)+2000))
	}
}

// checkReal compares with the exact number, rounded once.
func checkReal(t *testing.T, s string) {
	t.Helper()
	r, ok := new(big.Rat).SetString(s)
	if !ok {
		t.Fatalf("no rational: %.60q", s)
	}
	want, _ := r.Float64()
	if got, e := number.Parse(api.TReal, s); got != bits(want) || e != api.OK {
		t.Errorf("Parse(TReal, %.60q) of %d bytes: %v, %v, want %v", s, len(s), float(got), e, want)
	}
}

// P4.6: long numbers with long exponents, which outweigh each other.
func TestParseLong(t *testing.T) {
	for _, n := range []int{400, 800, 801, 10000, 100000, 300000} {
		zeros, e := strings.Repeat("0", n), strconv.Itoa(n)
		for _, x := range []struct {
			s    string
			want float64
		}{
			{"1" + zeros + "e-" + e, 1}, {"12" + zeros + ".5e-" + e, 12}, {"0." + zeros + "25e" + e, 0.25},
			{"." + zeros + "25e" + e, 0.25}, {zeros + "7", 7}, {"1." + zeros + "1", 1}, {zeros + "." + zeros, 0},
			{"1e" + zeros + "2", 100}, {"1e-" + zeros + "2", 0.01}, {"1.5" + zeros, 1.5},
			{strings.Repeat("3", n) + "e-" + e, 1.0 / 3}, {"1" + zeros + "e+" + zeros, math.Pow(10, float64(n))},
		} {
			if got, err := number.Parse(api.TReal, x.s); got != bits(x.want) || err != api.OK {
				t.Errorf("Parse(TReal, %.30q) with %d: %v, %v, want %v", x.s, n, float(got), err, x.want)
			}
		}
	}
}
