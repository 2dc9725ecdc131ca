package digest_test

import (
	"testing"

	"acheron/api"
	"acheron/digest"
)

// P3.7: signatures are those of the chapter's section Terms, and belong to the key of their secret.
func TestSign(t *testing.T) {
	for i, x := range secrets() {
		key, _ := digest.Key(x)
		for _, k := range secrets() {
			for _, s := range []string{"", "a", "text", texts()[64+i], texts()[199]} {
				g, e := digest.Sign(x, k, s)
				want := challenge(power(digest.Base, k), s)
				if g.E != want || e != api.OK || g.S != (k+times(x, want, digest.Order))%digest.Order {
					t.Errorf("Sign(%d, %d, %x): %v, %v", x, k, short(s), g, e)
				}
				if !digest.Verify(key, s, g) {
					t.Errorf("Verify of Sign(%d, %d, %x) is false", x, k, short(s))
				}
			}
		}
	}
}

// P3.7: a secret or a nonce that is none.
func TestSignRange(t *testing.T) {
	for _, n := range notSecrets() {
		for _, other := range []int{1, 5, 0} {
			if g, e := digest.Sign(n, other, "text"); g != (digest.Signature{}) || e != api.ErrRange {
				t.Errorf("Sign(%d, %d): %v, %v", n, other, g, e)
			}
			if g, e := digest.Sign(other, n, "text"); g != (digest.Signature{}) || e != api.ErrRange {
				t.Errorf("Sign(%d, %d): %v, %v", other, n, g, e)
			}
		}
	}
}

// P3.7: a signature belongs to no other text and no other key, and none of its numbers can be another one, also not
// one that differs by a multiple of Order.
func TestVerifyOthers(t *testing.T) {
	for _, x := range secrets() {
		key, _ := digest.Key(x)
		g, _ := digest.Sign(x, 9, "text")
		for _, s := range []string{"", "texts", "tex", "Text", "text\x00"} {
			if digest.Verify(key, s, g) {
				t.Errorf("Verify of the signature of another text: %q", s)
			}
		}
		for _, other := range []int{4 * key % digest.Prime, digest.Prime - key, key + digest.Prime, key - digest.Prime, 0, 1, 2} {
			if other != key && digest.Verify(other, "text", g) {
				t.Errorf("Verify with the key %d instead of %d", other, key)
			}
		}
		for _, d := range []int{1, -1, digest.Order, -digest.Order, 2 * digest.Order, 1 << 40} {
			if digest.Verify(key, "text", digest.Signature{E: g.E + d, S: g.S}) {
				t.Errorf("Verify with E %d + %d", g.E, d)
			}
			if digest.Verify(key, "text", digest.Signature{E: g.E, S: g.S + d}) {
				t.Errorf("Verify with S %d + %d", g.S, d)
			}
		}
		if digest.Verify(key, "text", digest.Signature{E: g.S, S: g.E}) || digest.Verify(key, "text", digest.Signature{}) {
			t.Error("Verify of numbers that are no signature")
		}
	}
}

// P3.7: what would fit a key that is not valid is no signature: of 1 every S has its E, of Prime - 1 each one whose E
// is even.
func TestVerifyKeys(t *testing.T) {
	found := 0
	for s := range 40 {
		e := challenge(power(digest.Base, s), "text")
		if digest.Verify(1, "text", digest.Signature{E: e, S: s}) {
			t.Errorf("Verify with the key 1, S %d", s)
		}
		if e%2 == 0 {
			found++
		}
		if digest.Verify(digest.Prime-1, "text", digest.Signature{E: e, S: s}) {
			t.Errorf("Verify with the key Prime - 1, S %d", s)
		}
	}
	if found == 0 {
		t.Error("no E was even")
	}
}

// P3.7: E and S are all that a signature has: R may also be 1, and S may be 0.
func TestVerifyEdges(t *testing.T) {
	e := challenge(1, "text")
	key, _ := digest.Key(5)
	if !digest.Verify(key, "text", digest.Signature{E: e, S: times(5, e, digest.Order)}) {
		t.Error("Verify of a signature whose R is 1")
	}
	const k = 77
	e = challenge(power(digest.Base, k), "text")
	// The secret x with k + x E = 0 modulo Order.
	x := times(digest.Order-k, inverse(e, digest.Order), digest.Order)
	key, _ = digest.Key(x)
	if g, err := digest.Sign(x, k, "text"); g != (digest.Signature{E: e}) || err != api.OK || !digest.Verify(key, "text", g) {
		t.Errorf("Sign with S 0: %v, %v", g, err)
	}
	for _, below := range []int{-1, -digest.Order, -1 << 63} {
		if digest.Verify(key, "text", digest.Signature{E: e, S: below}) {
			t.Errorf("Verify with S %d instead of 0", below)
		}
	}
}
