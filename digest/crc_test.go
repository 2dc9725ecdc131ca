package digest_test

import (
	"hash/crc32"
	"math"
	"testing"

	"acheron/api"
	"acheron/digest"
)

// P3.4: the chapter's example, and texts of many lengths.
func TestCrc(t *testing.T) {
	if c := digest.Crc("123456789"); c != 3421780262 {
		t.Errorf("Crc: %d", c)
	}
	for _, s := range texts() {
		if c := digest.Crc(s); c != int(crc32.ChecksumIEEE([]byte(s))) {
			t.Errorf("Crc of %d bytes: %x", len(s), c)
		}
	}
}

// P3.4: the check of two texts is that of the first one, extended.
func TestExtend(t *testing.T) {
	l := texts()
	for i, s := range l {
		more := l[len(l)-1-i]
		if c, e := digest.Extend(digest.Crc(s), more); c != digest.Crc(s+more) || e != api.OK {
			t.Errorf("Extend by %d bytes of the check of %d: %x, %v", len(more), len(s), c, e)
		}
		if c, e := digest.Extend(0, s); c != digest.Crc(s) || e != api.OK {
			t.Errorf("Extend of 0 by %d bytes: %x, %v", len(s), c, e)
		}
	}
	for _, c := range []int{0, 1, 0xCBF43926, 1 << 31, math.MaxUint32 - 1, math.MaxUint32} {
		if got, e := digest.Extend(c, ""); got != c || e != api.OK {
			t.Errorf("Extend of %x by no bytes: %x, %v", c, got, e)
		}
		want := crc32.Update(uint32(c), crc32.IEEETable, []byte("abc"))
		if got, e := digest.Extend(c, "abc"); got != int(want) || e != api.OK {
			t.Errorf("Extend of %x: %x, %v, want %x", c, got, e, want)
		}
	}
}

// P3.4: what is no word of 32 bits.
func TestExtendRange(t *testing.T) {
	for _, c := range []int{-1, math.MinInt, -1 << 32, math.MaxUint32 + 1, math.MaxUint32 + 2, math.MaxInt} {
		for _, s := range []string{"", "abc"} {
			if got, e := digest.Extend(c, s); got != 0 || e != api.ErrRange {
				t.Errorf("Extend(%d, %q): %x, %v", c, s, got, e)
			}
		}
	}
}
