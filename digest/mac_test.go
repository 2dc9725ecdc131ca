package digest_test

import (
	"math"
	"strings"
	"testing"

	"acheron/api"
	"acheron/digest"
)

// P3.1: the chapter's example, and others that are known.
func TestMacKnown(t *testing.T) {
	for _, x := range []struct{ key, s, want string }{
		{"key", "The quick brown fox jumps over the lazy dog",
			"f7bc83f430538424b13298e6aa6fb143ef4d59a14946175997479dbc2d1a3cd8"},
		{"", "", "b613679a0814d9ec772f95d778c35fc5ff1697c493715653c6c712144292c5ad"},
		{strings.Repeat("\x0b", 20), "Hi There", "b0344c61d8db38535ca8afceaf0bf12b881dc200c9833da726e9376c2e32cff7"},
		{strings.Repeat("\xaa", 131), "Test Using Larger Than Block-Size Key - Hash Key First",
			"60e431591ee0b67f0d8a26aacbf5b77f8e0bc6213728c5140546040f0ee37f54"},
	} {
		if got := digest.Hex(digest.Mac(x.key, x.s)); got != x.want {
			t.Errorf("Mac(%q, %q): %s, want %s", short(x.key), x.s, got, x.want)
		}
	}
}

// P3.1: keys and messages of each length around a block's.
func TestMac(t *testing.T) {
	l := texts()
	for _, key := range l[:140] {
		for _, n := range []int{0, 1, 55, 64, 150} {
			if got := digest.Mac(key, l[n]); got != mac(key, l[n]) {
				t.Errorf("Mac of a key of %d bytes and a message of %d: %x", len(key), n, got)
			}
		}
	}
	long := l[65]
	if digest.Mac(long, "a") != digest.Mac(digest.Sum(long), "a") || digest.Mac("k", "a") != digest.Mac("k\x00", "a") {
		t.Error("Mac of a long key is not that of its digest, or that of a short one changes with a byte 0 behind it")
	}
}

// P3.3: parts of a keystream, within blocks and across them.
func TestStream(t *testing.T) {
	for _, key := range []string{"", "k", texts()[64], texts()[65], texts()[199]} {
		for _, nonce := range []int{0, 1, 255, 256, 1 << 32, math.MaxInt} {
			all := stream(key, nonce, 6)
			for _, from := range []int{0, 1, 31, 32, 33, 63, 64, 65, 100} {
				for _, n := range []int{0, 1, 2, 31, 32, 33, 64, 65, 92} {
					got, e := digest.Stream(key, nonce, from, n)
					if got != all[from:from+n] || e != api.OK {
						t.Errorf("Stream of a key of %d bytes (%d, %d, %d): %x, %v", len(key), nonce, from, n, got, e)
					}
				}
			}
		}
	}
}

// P3.3: as far, and as much, as is permitted.
func TestStreamFar(t *testing.T) {
	far, e := digest.Stream("key", 3, maxStream, maxStream)
	if len(far) != maxStream || e != api.OK {
		t.Fatalf("Stream of 2^20 bytes: %d, %v", len(far), e)
	}
	if want := mac("key", eight(3)+eight(maxStream/32)); far[:32] != want {
		t.Errorf("the first block behind 2^20 bytes: %x, want %x", far[:32], want)
	}
	if want := mac("key", eight(3)+eight(2*maxStream/32-1)); far[maxStream-32:] != want {
		t.Errorf("the last block: %x, want %x", far[maxStream-32:], want)
	}
	if s, e := digest.Stream("key", 3, maxStream, 0); s != "" || e != api.OK {
		t.Errorf("no bytes from 2^20 on: %x, %v", short(s), e)
	}
}

// P3.3: numbers that are out of their ranges, alone and together.
func TestStreamRange(t *testing.T) {
	for _, x := range [][3]int{
		{-1, 0, 0}, {0, -1, 0}, {0, 0, -1}, {0, 0, math.MinInt}, {math.MinInt, 5, 5}, {0, math.MinInt, 5},
		{0, maxStream + 1, 0}, {0, 0, maxStream + 1}, {0, math.MaxInt, 1}, {0, 1, math.MaxInt}, {-1, -1, -1},
		{0, math.MaxInt, math.MaxInt}, {0, -1, maxStream + 1}, {0, -32, 64},
	} {
		if s, e := digest.Stream("key", x[0], x[1], x[2]); s != "" || e != api.ErrRange {
			t.Errorf("Stream(%v): %d bytes, %v", x, len(s), e)
		}
	}
}

// P3.3: Mask is the exclusive or, and takes itself back.
func TestMask(t *testing.T) {
	for _, s := range texts()[:100] {
		for _, nonce := range []int{0, 9, math.MaxInt} {
			got, e := digest.Mask(s, "key", nonce)
			if got != exclusive(s, stream("key", nonce, 4)) || e != api.OK {
				t.Errorf("Mask of %d bytes with %d: %x, %v", len(s), nonce, got, e)
			}
			if back, e := digest.Mask(got, "key", nonce); back != s || e != api.OK {
				t.Errorf("Mask of Mask of %d bytes: %x, %v", len(s), back, e)
			}
		}
	}
	all := strings.Repeat("\x00", maxStream)
	want, _ := digest.Stream("key", 1, 0, maxStream)
	if got, e := digest.Mask(all, "key", 1); got != want || e != api.OK {
		t.Errorf("Mask of 2^20 bytes 0 is not the keystream: %d bytes, %v", len(got), e)
	}
}

// P3.3: a negative nonce, too many bytes.
func TestMaskRange(t *testing.T) {
	long := strings.Repeat("a", maxStream+1)
	for _, x := range []struct {
		s     string
		nonce int
	}{{"", -1}, {"abc", -1}, {"abc", math.MinInt}, {long, 0}, {long, -1}} {
		if s, e := digest.Mask(x.s, "key", x.nonce); s != "" || e != api.ErrRange {
			t.Errorf("Mask of %d bytes with %d: %d bytes, %v", len(x.s), x.nonce, len(s), e)
		}
	}
}
