package text_test

import (
	"math"
	"testing"

	"acheron/api"
	"acheron/text"
)

// P1.5: places in lines, at their ends, and within encodings.
func TestPlace(t *testing.T) {
	for _, x := range []struct {
		s                string
		at, line, column int
	}{
		{"", 0, 1, 1},
		{"ab\ncd", 0, 1, 1},
		{"ab\ncd", 2, 1, 3},
		{"ab\ncd", 3, 2, 1},
		{"ab\ncd", 4, 2, 2},
		{"ab\ncd", 5, 2, 3},
		{"\n\n\n", 0, 1, 1},
		{"\n\n\n", 1, 2, 1},
		{"\n\n\n", 2, 3, 1},
		{"\n\n\n", 3, 4, 1},
		{"a\r\nb", 2, 1, 3},
		{"a\r\nb", 4, 2, 2},
		{"\t\tx", 2, 1, 3},
		{"éa", 0, 1, 1},
		{"éa", 1, 1, 2},
		{"éa", 2, 1, 2},
		{"éa", 3, 1, 3},
		{"é\n€a", 6, 2, 2},
		{"é\n€a", 5, 2, 3},
		{"é\n€a", 4, 2, 2},
		{"\U00010000b", 3, 1, 4},
		{"\U00010000b", 4, 1, 2},
		{"\xff\xe2\x82\nb", 3, 1, 4},
		{"\xff\xe2\x82\nb", 4, 2, 1},
		{"\xff\xe2\x82\nb", 5, 2, 2},
	} {
		line, column, e := text.Place(x.s, x.at)
		if line != x.line || column != x.column || e != api.OK {
			t.Errorf("Place(%q, %d) = %d, %d, %v, want %d, %d", x.s, x.at, line, column, e, x.line, x.column)
		}
	}
}

// P1.5: an index that the text does not have.
func TestPlaceErrors(t *testing.T) {
	for _, s := range []string{"", "a", "ab\ncd", "é"} {
		for _, at := range []int{-1, len(s) + 1, math.MinInt, math.MaxInt} {
			if line, column, e := text.Place(s, at); line != 0 || column != 0 || e != api.ErrRange {
				t.Errorf("Place(%q, %d) = %d, %d, %v", s, at, line, column, e)
			}
		}
	}
}

// P1.5: every index of texts of any bytes, counted byte by byte.
func TestPlaceAnyBytes(t *testing.T) {
	const some = "\n\na\xc3\xa9\xe2\x82\xac\xff"
	d := dice(3)
	for range 3000 {
		b := make([]byte, d.below(12))
		for i := range b {
			b[i] = some[d.below(len(some))]
		}
		line, from := 1, 0
		for at := range len(b) + 1 {
			if at > 0 && b[at-1] == '\n' {
				line, from = line+1, at
			}
			column := 1 + len(decode(string(b[from:at])))
			if l, c, e := text.Place(string(b), at); l != line || c != column || e != api.OK {
				t.Fatalf("Place(%q, %d) = %d, %d, %v, want %d, %d", b, at, l, c, e, line, column)
			}
		}
	}
}
