package number

import (
	"math"
	"strconv"
	"strings"

	"acheron/api"
)

const (
	oneBits = 0x3FF0000000000000
	nanBits = 0x7FF8000000000001
	signBit = math.MinInt64
)

// A real is written without an exponent if the power of ten of its first digit is one of these.
const (
	leastPlain    = -5
	greatestPlain = 20
)

const (
	enoughDigits = 17   // that many tell any real from all others
	farPower     = 1000 // the powers of ten of all reals are nearer to 0
	exponentSize = 48   // the bits of an exponent that no digits of a text make up for
)

// reals returns the operations of reals.
func reals() table {
	return table{
		one:  oneBits,
		size: 64,
		wrap: func(n int64) int64 { return bitsOf(realOf(n)) },
		arith: [api.OpShr + 1]func(a, b int64) int64{
			api.OpAdd: func(a, b int64) int64 { return bitsOf(realOf(a) + realOf(b)) },
			api.OpSub: func(a, b int64) int64 { return bitsOf(realOf(a) - realOf(b)) },
			api.OpMul: func(a, b int64) int64 { return bitsOf(realOf(a) * realOf(b)) },
			api.OpDiv: func(a, b int64) int64 { return bitsOf(realOf(a) / realOf(b)) },
		},
		neg:     opposite,
		compare: func(op int, a, b int64) bool { return holds(op, realOf(a), realOf(b)) },
		toReal:  realOf,
		ofReal:  func(x float64, _ int) int64 { return bitsOf(x) },
		text:    realText,
		parse:   parseReal,
	}
}

func realOf(n int64) float64 { return math.Float64frombits(uint64(n)) }

// bitsOf returns the bits of a real, which are the same ones for any NaN.
func bitsOf(x float64) int64 {
	if math.IsNaN(x) {
		return nanBits
	}
	return int64(math.Float64bits(x))
}

// opposite turns the sign alone: 0 - x would not turn that of 0.
func opposite(n int64) int64 { return n ^ signBit }

func realText(n int64) string {
	x := realOf(n)
	switch {
	case math.IsNaN(x):
		return "NaN"
	case math.Signbit(x):
		return "-" + unsignedText(math.Abs(x))
	}
	return unsignedText(x)
}

func unsignedText(x float64) string {
	if x == 0 {
		return "0"
	}
	if math.IsInf(x, 1) {
		return "Infinity"
	}
	digits, power := fewestDigits(x)
	if power < leastPlain || power > greatestPlain {
		return withExponent(digits, power)
	}
	return withoutExponent(digits, power)
}

// fewestDigits returns the digits of a real, rounded to as few as are read as it again, and the power of ten of the
// first one. The fewest digits of FormatFloat itself would not do: they are any that are read so, rounded or not.
func fewestDigits(x float64) (string, int) {
	s := ""
	for d := range enoughDigits {
		s = strconv.FormatFloat(x, 'e', d, 64)
		if back, _ := strconv.ParseFloat(s, 64); back == x {
			break
		}
	}
	digits, exponent, _ := strings.Cut(s, "e")
	power, _ := strconv.Atoi(exponent)
	return strings.TrimRight(strings.Replace(digits, ".", "", 1), "0"), power
}

func withoutExponent(digits string, power int) string {
	whole := power + 1 // so many digits are before the point
	switch {
	case power < 0:
		return "0." + strings.Repeat("0", -whole) + digits
	case whole >= len(digits):
		return digits + strings.Repeat("0", whole-len(digits))
	}
	return digits[:whole] + "." + digits[whole:]
}

func withExponent(digits string, power int) string {
	s := digits[:1]
	if len(digits) > 1 {
		s += "." + digits[1:]
	}
	if power < 0 {
		return s + "e" + strconv.Itoa(power)
	}
	return s + "e+" + strconv.Itoa(power)
}

func parseReal(s string, size int) int64 {
	sign, s := cutSign(skipBlanks(s))
	n, ok := unsignedBits(s, size)
	if ok && sign == "-" {
		return opposite(n)
	}
	return n
}

// unsignedBits returns the bits of the real with which a text without a sign begins, and whether there is one.
func unsignedBits(s string, size int) (int64, bool) {
	switch {
	case strings.HasPrefix(s, "Infinity"):
		return bitsOf(math.Inf(1)), true
	case strings.HasPrefix(s, "NaN"):
		return nanBits, true
	}
	whole, rest := cutDigits(s)
	fraction := ""
	if strings.HasPrefix(rest, ".") {
		fraction, rest = cutDigits(rest[1:])
	}
	if whole == "" && fraction == "" {
		return 0, false
	}
	power := int64(len(whole))
	if strings.HasPrefix(rest, "e") || strings.HasPrefix(rest, "E") {
		power += leadingInteger(rest[1:], exponentSize)
	}
	return bitsOf(decimal(whole+fraction, power, size)), true
}

// decimal returns the real that is nearest to 0.digits * 10^power. ParseFloat cuts long exponents off, and loses its
// place in long numbers: so it gets the first digit that is not 0 before the point, and a power that is not too far.
func decimal(digits string, power int64, size int) float64 {
	known := strings.TrimLeft(digits, "0")
	if known == "" {
		return 0
	}
	power -= int64(len(digits)-len(known)) + 1
	power = min(max(power, -farPower), farPower)
	x, _ := strconv.ParseFloat(known[:1]+"."+known[1:]+"e"+strconv.FormatInt(power, 10), size)
	return x // an infinity if it is beyond the greatest real, whose error does not matter
}
