package number

import (
	"math"
	"strconv"
	"strings"

	"acheron/api"
)

// integers returns the operations of a kind of integers. They are those of all integers, as 64 bits are enough for the
// lowest bits of any result: so only the wrapping, which Go's conversion to T does, depends on the kind.
func integers[T uint8 | int32 | int64](size int) table {
	return table{
		one:  1,
		size: size,
		wrap: func(n int64) int64 { return int64(T(n)) },
		arith: [...]func(a, b int64) int64{
			api.OpAdd: sum,
			api.OpSub: difference,
			api.OpMul: product,
			api.OpDiv: quotient,
			api.OpMod: remainder,
			api.OpAnd: both,
			api.OpOr:  either,
			api.OpXor: oneOf,
			api.OpShl: left,
			api.OpShr: right,
		},
		neg:     negative,
		not:     turned,
		compare: compareIntegers,
		toReal:  nearestReal,
		ofReal:  nearestInteger,
		text:    integerText,
		parse:   parseInteger,
	}
}

func sum(a, b int64) int64        { return a + b }
func difference(a, b int64) int64 { return a - b }
func product(a, b int64) int64    { return a * b }
func quotient(a, b int64) int64   { return a / b }
func remainder(a, b int64) int64  { return a % b }
func both(a, b int64) int64       { return a & b }
func either(a, b int64) int64     { return a | b }
func oneOf(a, b int64) int64      { return a ^ b }

// left and right take the lowest 32 bits of the count without its sign: so one below 0 is above every width, too, and
// for such a count Go shifts all bits out.
func left(a, count int64) int64  { return a << uint32(count) }
func right(a, count int64) int64 { return a >> uint32(count) }

func negative(a int64) int64 { return -a }
func turned(a int64) int64   { return ^a }

func isZero(a int64) int64 {
	if a == 0 {
		return 1
	}
	return 0
}

func compareIntegers(op int, a, b int64) bool { return holds(op, a, b) }

func nearestReal(n int64) float64 { return float64(n) }

// nearestInteger returns the integer of size bits that is nearest to a real.
func nearestInteger(x float64, size int) int64 {
	least := int64(-1) << (size - 1)
	x = math.Round(x)
	switch {
	case math.IsNaN(x):
		return 0
	case x < float64(least):
		return least
	case x >= -float64(least):
		return ^least
	}
	return int64(x)
}

func integerText(n int64) string { return strconv.FormatInt(n, 10) }

func parseInteger(s string, size int) int64 { return leadingInteger(skipBlanks(s), size) }

// leadingInteger returns the integer with which a text begins, or the least or greatest one of size bits that is
// nearest to it; 0 if there is none.
func leadingInteger(s string, size int) int64 {
	_, unsigned := cutSign(s)
	_, rest := cutDigits(unsigned)
	n, _ := strconv.ParseInt(s[:len(s)-len(rest)], 10, size) // with an error, too, n is what is wanted here
	return n
}

func skipBlanks(s string) string { return strings.TrimLeft(s, " \t") }

// cutSign returns the sign with which a text begins, if there is one, and what follows it.
func cutSign(s string) (string, string) {
	if strings.HasPrefix(s, "+") || strings.HasPrefix(s, "-") {
		return s[:1], s[1:]
	}
	return "", s
}

// cutDigits returns the digits with which a text begins, and what follows them.
func cutDigits(s string) (string, string) {
	rest := strings.TrimLeft(s, "0123456789")
	return s[:len(s)-len(rest)], rest
}
