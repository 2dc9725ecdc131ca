package digest

import (
	"math/bits"

	"acheron/api"
)

// The group.
const (
	Prime = 2305843009213691579
	Order = 1152921504606845789
	Base  = 4
)

// Times returns a product modulo Prime.
func Times(a, b int) (int, api.Errno) {
	if !isUnit(a) || !isUnit(b) {
		return 0, api.ErrRange
	}
	return product(a, b, Prime), api.OK
}

// Power returns a power modulo Prime.
func Power(a, n int) (int, api.Errno) {
	if !isUnit(a) || n < 0 {
		return 0, api.ErrRange
	}
	return power(a, n), api.OK
}

// Inverse returns the inverse modulo Prime.
func Inverse(a int) (int, api.Errno) {
	if !isUnit(a) {
		return 0, api.ErrRange
	}
	return inverse(a), api.OK
}

// Key returns the key of a secret.
func Key(secret int) (int, api.Errno) {
	if !isSecret(secret) {
		return 0, api.ErrRange
	}
	return power(Base, secret), api.OK
}

// Valid reports whether a key is valid.
func Valid(key int) bool { return isUnit(key) && key != 1 && power(key, Order) == 1 }

// Shared returns what two secrets have in common.
func Shared(secret, key int) (int, api.Errno) {
	switch {
	case !isSecret(secret):
		return 0, api.ErrRange
	case !Valid(key):
		return 0, api.ErrKey
	}
	return power(key, secret), api.OK
}

// isUnit reports whether a number has an inverse, written as the least one that it can be.
func isUnit(a int) bool { return a >= 1 && a < Prime }

func isSecret(n int) bool { return n >= 1 && n < Order }

// product returns a product of numbers that are not negative.
func product(a, b, modulus int) int {
	high, low := bits.Mul64(uint64(a), uint64(b))
	return int(bits.Rem64(high, low, uint64(modulus)))
}

func power(a, n int) int {
	p := 1
	for ; n > 0; n >>= 1 {
		if n&1 == 1 {
			p = product(p, a, Prime)
		}
		a = product(a, a, Prime)
	}
	return p
}

// inverse leans on Fermat: a to the power of Prime - 1 is 1, as Prime is one.
func inverse(a int) int { return power(a, Prime-2) }
