package digest_test

import (
	"strings"
	"testing"

	"acheron/digest"
)

// P3.1: digests that are known.
func TestSumKnown(t *testing.T) {
	for _, x := range []struct{ s, want string }{
		{"", "e3b0c44298fc1c149afbf4c8996fb92427ae41e4649b934ca495991b7852b855"},
		{"abc", "ba7816bf8f01cfea414140de5dae2223b00361a396177a9cb410ff61f20015ad"},
		{"abcdbcdecdefdefgefghfghighijhijkijkljklmklmnlmnomnopnopq",
			"248d6a61d20638b8e5c026930c3e6039a33ce45964ff2167f6ecedd419db06c1"},
		{strings.Repeat("a", 1000000), "cdc76e5c9914fb9281a1c7e284d73e67f1809a48a497200e046d39ccc7112cd0"},
	} {
		if got := digest.Hex(digest.Sum(x.s)); got != x.want {
			t.Errorf("Sum of %q: %s, want %s", short(x.s), got, x.want)
		}
	}
}

// P3.1: messages of each length around the bounds of blocks, and long ones.
func TestSum(t *testing.T) {
	for _, s := range texts() {
		if got := digest.Sum(s); got != sum(s) {
			t.Errorf("Sum of %d bytes: %x, want %x", len(s), got, sum(s))
		}
	}
}

// P3.1: a message whose number of bits does not fit 32.
func TestSumLong(t *testing.T) {
	var h digest.Hash
	part := strings.Repeat("0123456789abcdef", 1<<16)
	for range 513 {
		h = h.Add(part)
	}
	const want = "637a0d65f7da04a8cfd1b492f89cd83f0f9b01b6e2f435a116debbc5c4b0c549"
	if got := digest.Hex(h.Sum()); got != want || h.Len() != 513<<20 {
		t.Errorf("Sum of %d bytes: %s", h.Len(), got)
	}
}

// P3.1: a hash has its bytes however they were added.
func TestAddParts(t *testing.T) {
	for _, s := range texts()[:140] {
		for _, at := range []int{0, 1, 55, 56, 63, 64, 65, 128, len(s)} {
			if at > len(s) {
				continue
			}
			h := digest.Hash{}.Add(s[:at]).Add("").Add(s[at:])
			if h.Sum() != sum(s) || h.Len() != len(s) {
				t.Errorf("%d bytes and %d: Sum %x, Len %d", at, len(s)-at, h.Sum(), h.Len())
			}
			if h != (digest.Hash{}.Add(s)) {
				t.Errorf("%d bytes and %d: not the value of the same bytes added at once", at, len(s)-at)
			}
		}
	}
	s := texts()[199]
	var h digest.Hash
	for i := range len(s) {
		h = h.Add(s[i : i+1])
		if h.Sum() != sum(s[:i+1]) || h.Len() != i+1 {
			t.Fatalf("byte by byte, %d bytes: Sum %x, Len %d", i+1, h.Sum(), h.Len())
		}
	}
}

// P3.1: the zero value has no bytes.
func TestHashZero(t *testing.T) {
	var h digest.Hash
	if h.Sum() != sum("") || h.Len() != 0 || len(h.Sum()) != 32 {
		t.Errorf("the zero hash: Sum %x, Len %d", h.Sum(), h.Len())
	}
	if h.Add("") != h {
		t.Error("the zero hash changes when no bytes are added")
	}
}

// P3.1: Add and Sum change nothing: two hashes that are made from one have only its bytes and their own.
func TestAddChangesNothing(t *testing.T) {
	for _, n := range []int{0, 1, 31, 55, 63, 64, 65, 100, 127, 128} {
		s := texts()[n]
		h := digest.Hash{}.Add(s)
		was := h
		for _, more := range []int{1, 8, 63, 64, 130} {
			a, b := h.Add(strings.Repeat("a", more)), h.Add(strings.Repeat("b", more))
			if a.Sum() != sum(s+strings.Repeat("a", more)) || b.Sum() != sum(s+strings.Repeat("b", more)) {
				t.Errorf("two hashes of %d bytes made from one of %d are mixed up", n+more, n)
			}
			if a.Add("c").Sum() != sum(s+strings.Repeat("a", more)+"c") {
				t.Errorf("a hash of %d bytes does not go on behind Sum", n+more)
			}
			if h != was || h.Sum() != sum(s) || h.Len() != n {
				t.Errorf("a hash of %d bytes was changed", n)
			}
		}
	}
}
