package digest

import "acheron/api"

// Signature is a signature.
type Signature struct{ E, S int }

// Sign returns the signature of a message.
func Sign(secret, nonce int, s string) (Signature, api.Errno) {
	if !isSecret(secret) || !isSecret(nonce) {
		return Signature{}, api.ErrRange
	}
	e := challenge(power(Base, nonce), s)
	return Signature{E: e, S: (nonce + product(secret, e, Order)) % Order}, api.OK
}

// Verify reports whether a signature belongs to a message and a key.
func Verify(key int, s string, g Signature) bool {
	if !Valid(key) || !isExponent(g.E) || !isExponent(g.S) {
		return false
	}
	r := product(power(Base, g.S), inverse(power(key, g.E)), Prime)
	return challenge(r, s) == g.E
}

// challenge returns the number E for a message and the key of a nonce.
func challenge(r int, s string) int {
	sum := Sum(word(uint64(r)) + s)
	var n uint64
	for i := range wordSize {
		n = n<<8 | uint64(sum[i])
	}
	return int(n % Order)
}

func isExponent(n int) bool { return n >= 0 && n < Order }
