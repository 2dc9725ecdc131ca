package digest_test

import (
	"crypto/hmac"
	"crypto/sha256"
	"encoding/binary"
	"math/big"

	"acheron/digest"
)

const maxStream = 1 << 20

func sum(s string) string {
	b := sha256.Sum256([]byte(s))
	return string(b[:])
}

func mac(key, s string) string {
	h := hmac.New(sha256.New, []byte(key))
	h.Write([]byte(s))
	return string(h.Sum(nil))
}

// eight is a number in eight bytes.
func eight(n int) string {
	return string(binary.BigEndian.AppendUint64(nil, uint64(n)))
}

// stream is as many first blocks of a keystream, as the chapter's section Terms says it.
func stream(key string, nonce, blocks int) string {
	var b []byte
	for i := range blocks {
		b = append(b, mac(key, eight(nonce)+eight(i))...)
	}
	return string(b)
}

func exclusive(s, with string) string {
	b := []byte(s)
	for i := range b {
		b[i] ^= with[i]
	}
	return string(b)
}

// power is a power modulo Prime.
func power(a, n int) int {
	p := big.NewInt(int64(a))
	p.Exp(p, big.NewInt(int64(n)), big.NewInt(digest.Prime))
	return int(p.Int64())
}

// times is a product modulo n.
func times(a, b, n int) int {
	p := big.NewInt(int64(a))
	p.Mul(p, big.NewInt(int64(b)))
	return int(p.Mod(p, big.NewInt(int64(n))).Int64())
}

// inverse is a number whose product with a is 1 modulo n.
func inverse(a, n int) int {
	return int(new(big.Int).ModInverse(big.NewInt(int64(a)), big.NewInt(int64(n))).Int64())
}

// challenge is the number E of the chapter's section Terms.
func challenge(r int, s string) int {
	n := binary.BigEndian.Uint64([]byte(sum(eight(r) + s)))
	return int(n % digest.Order)
}

// texts has texts of each length around the bounds of blocks.
func texts() []string {
	d := dice(7)
	var l []string
	for n := range 200 {
		l = append(l, d.bytes(n))
	}
	for _, n := range []int{255, 256, 257, 1000, 4095, 4096, 65537} {
		l = append(l, d.bytes(n))
	}
	return l
}

// units has numbers from 1 to Prime - 1: small and great ones, those around Order, and ones that a table chooses.
func units() []int {
	l := []int{1, 2, 3, 4, 5, 16, 1 << 32, 1 << 60, 1<<61 - 1<<12,
		digest.Order - 1, digest.Order, digest.Order + 1, digest.Prime - 4, digest.Prime - 2, digest.Prime - 1}
	d := dice(11)
	for range 40 {
		l = append(l, 1+d.below(digest.Prime-1))
	}
	return l
}

// notUnits has numbers that are not from 1 to Prime - 1, with some that differ from one by a multiple of Prime.
func notUnits() []int {
	return []int{0, -1, -4, digest.Prime, digest.Prime + 1, digest.Prime + 4, 4 - digest.Prime, 2*digest.Prime + 4,
		-digest.Prime, 1<<63 - 1, -1 << 63}
}

func secrets() []int {
	l := []int{1, 2, 3, 1 << 32, 1<<60 - 1<<22, digest.Order / 2, digest.Order - 2, digest.Order - 1}
	d := dice(13)
	for range 12 {
		l = append(l, 1+d.below(digest.Order-1))
	}
	return l
}

// notSecrets has numbers that are not from 1 to Order - 1, with some that differ from one by a multiple of Order.
func notSecrets() []int {
	return []int{0, -1, digest.Order, digest.Order + 1, digest.Order + 5, 5 - digest.Order, -digest.Order,
		digest.Prime, digest.Prime - 1, 1<<63 - 1, -1 << 63}
}

// short cuts a text off for a message.
func short(s string) string { return s[:min(len(s), 40)] }

// dice is a sequence of numbers that is the same in each run.
type dice uint64

func (d *dice) next() uint64 {
	*d = *d*6364136223846793005 + 1442695040888963407
	return uint64(*d) >> 32
}

func (d *dice) below(n int) int { return int((d.next()<<32 | d.next()) % uint64(n)) }

func (d *dice) bytes(n int) string {
	var b []byte
	for range n {
		b = append(b, byte(d.next()))
	}
	return string(b)
}
