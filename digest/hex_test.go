package digest_test

import (
	"encoding/hex"
	"testing"

	"acheron/api"
	"acheron/digest"
)

// P3.2: each byte, and texts of several.
func TestHex(t *testing.T) {
	l := texts()
	for i := range 256 {
		l = append(l, string([]byte{byte(i)}))
	}
	for _, s := range l {
		h := digest.Hex(s)
		if h != hex.EncodeToString([]byte(s)) {
			t.Errorf("Hex of %x: %s", short(s), short(h))
		}
		if back, e := digest.Unhex(h); back != s || e != api.OK {
			t.Errorf("Unhex of %s: %x, %v", short(h), short(back), e)
		}
	}
}

// P3.2: each byte in each place of a text: only the sixteen digits are read.
func TestUnhexEachByte(t *testing.T) {
	for i := range 256 {
		c := byte(i)
		digit := c >= '0' && c <= '9' || c >= 'a' && c <= 'f'
		for at := range 4 {
			b := []byte("0000")
			b[at] = c
			s, e := digest.Unhex(string(b))
			if digit && (e != api.OK || digest.Hex(s) != string(b)) || !digit && (e != api.ErrSyntax || s != "") {
				t.Errorf("Unhex(%q): %x, %v", b, s, e)
			}
		}
	}
}

// P3.2: an odd number of bytes comes before all others.
func TestUnhexErrors(t *testing.T) {
	for _, x := range []struct {
		s    string
		want api.Errno
	}{
		{"0", api.ErrShape}, {"123", api.ErrShape}, {"g", api.ErrShape}, {"xyz", api.ErrShape}, {"0A0", api.ErrShape},
		{"AB", api.ErrSyntax}, {"0x", api.ErrSyntax}, {" 0", api.ErrSyntax}, {"0\n", api.ErrSyntax}, {"é", api.ErrSyntax},
		{"00fG", api.ErrSyntax},
	} {
		if s, e := digest.Unhex(x.s); s != "" || e != x.want {
			t.Errorf("Unhex(%q): %x, %v, want %v", x.s, s, e, x.want)
		}
	}
}
