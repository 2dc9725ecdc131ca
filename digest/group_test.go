package digest_test

import (
	"math"
	"math/big"
	"testing"

	"acheron/api"
	"acheron/digest"
)

// The chapter's section Terms: the three numbers of the group.
func TestGroupNumbers(t *testing.T) {
	if digest.Prime != 2305843009213691579 || digest.Order != 1152921504606845789 || digest.Base != 4 {
		t.Error("the group's numbers are not those of the chapter")
	}
	for _, n := range []int64{digest.Prime, digest.Order} {
		if !big.NewInt(n).ProbablyPrime(40) {
			t.Errorf("%d is not a prime", n)
		}
	}
}

// P3.5: products.
func TestTimes(t *testing.T) {
	for _, a := range units() {
		for _, b := range units() {
			if p, e := digest.Times(a, b); p != times(a, b, digest.Prime) || e != api.OK {
				t.Errorf("Times(%d, %d): %d, %v", a, b, p, e)
			}
		}
	}
}

// P3.5: powers, also of exponents above the group's order.
func TestPower(t *testing.T) {
	exponents := append(secrets(), 0, digest.Order, digest.Prime-1, digest.Prime, math.MaxInt-1, math.MaxInt)
	for _, a := range units() {
		for _, n := range exponents {
			if p, e := digest.Power(a, n); p != power(a, n) || e != api.OK {
				t.Errorf("Power(%d, %d): %d, %v", a, n, p, e)
			}
		}
		if p, e := digest.Power(a, 0); p != 1 || e != api.OK {
			t.Errorf("Power(%d, 0): %d, %v", a, p, e)
		}
	}
}

// P3.5: inverses.
func TestInverse(t *testing.T) {
	for _, a := range units() {
		b, e := digest.Inverse(a)
		if b < 1 || b >= digest.Prime || e != api.OK || times(a, b, digest.Prime) != 1 {
			t.Errorf("Inverse(%d): %d, %v", a, b, e)
		}
	}
}

// P3.5: numbers that are not from 1 to Prime - 1, in each place; an exponent below 0.
func TestUnitRange(t *testing.T) {
	for _, n := range notUnits() {
		for _, other := range []int{1, 5, 0} {
			if p, e := digest.Times(n, other); p != 0 || e != api.ErrRange {
				t.Errorf("Times(%d, %d): %d, %v", n, other, p, e)
			}
			if p, e := digest.Times(other, n); p != 0 || e != api.ErrRange {
				t.Errorf("Times(%d, %d): %d, %v", other, n, p, e)
			}
			if p, e := digest.Power(n, other); p != 0 || e != api.ErrRange {
				t.Errorf("Power(%d, %d): %d, %v", n, other, p, e)
			}
		}
		if p, e := digest.Inverse(n); p != 0 || e != api.ErrRange {
			t.Errorf("Inverse(%d): %d, %v", n, p, e)
		}
	}
	for _, n := range []int{-1, -2, -digest.Order, math.MinInt} {
		for _, a := range []int{1, 4, digest.Prime - 1, 0} {
			if p, e := digest.Power(a, n); p != 0 || e != api.ErrRange {
				t.Errorf("Power(%d, %d): %d, %v", a, n, p, e)
			}
		}
	}
}

// P3.6: keys of secrets.
func TestKey(t *testing.T) {
	if k, e := digest.Key(2); k != 16 || e != api.OK {
		t.Errorf("Key(2): %d, %v", k, e)
	}
	for _, x := range secrets() {
		k, e := digest.Key(x)
		if k != power(digest.Base, x) || e != api.OK || !digest.Valid(k) {
			t.Errorf("Key(%d): %d, %v, valid %v", x, k, e, digest.Valid(k))
		}
	}
	for _, x := range notSecrets() {
		if k, e := digest.Key(x); k != 0 || e != api.ErrRange {
			t.Errorf("Key(%d): %d, %v", x, k, e)
		}
	}
}

// P3.6: a valid key is a square modulo Prime other than 1; of a number and its negative exactly one is a square.
func TestValid(t *testing.T) {
	for _, a := range units() {
		square := big.Jacobi(big.NewInt(int64(a)), big.NewInt(digest.Prime)) == 1
		if digest.Valid(a) != (square && a != 1) {
			t.Errorf("Valid(%d): %v", a, digest.Valid(a))
		}
		if negative := digest.Prime - a; digest.Valid(negative) != (!square && negative != 1) {
			t.Errorf("Valid(%d): %v", negative, digest.Valid(negative))
		}
	}
	for _, a := range []int{1, 2, digest.Prime - 1, digest.Prime - 4} {
		if digest.Valid(a) {
			t.Errorf("Valid(%d)", a)
		}
	}
	for _, a := range notUnits() {
		if digest.Valid(a) {
			t.Errorf("Valid(%d)", a)
		}
	}
}

// P3.6: both sides share the same number.
func TestShared(t *testing.T) {
	for _, x := range secrets() {
		for _, y := range secrets() {
			kx, _ := digest.Key(x)
			ky, _ := digest.Key(y)
			a, e := digest.Shared(x, ky)
			b, f := digest.Shared(y, kx)
			if a != b || a != power(ky, x) || e != api.OK || f != api.OK {
				t.Errorf("Shared of %d and %d: %d, %v, and %d, %v", x, y, a, e, b, f)
			}
		}
	}
}

// P3.6: what is no secret comes before what is no key.
func TestSharedErrors(t *testing.T) {
	bad := append(notUnits(), 1, 2, digest.Prime-1, digest.Prime-4)
	for _, x := range notSecrets() {
		for _, k := range append(bad, 4) {
			if n, e := digest.Shared(x, k); n != 0 || e != api.ErrRange {
				t.Errorf("Shared(%d, %d): %d, %v", x, k, n, e)
			}
		}
	}
	for _, k := range bad {
		if n, e := digest.Shared(5, k); n != 0 || e != api.ErrKey {
			t.Errorf("Shared(5, %d): %d, %v", k, n, e)
		}
	}
}
