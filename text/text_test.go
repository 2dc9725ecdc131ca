package text_test

import (
	"math"
	"slices"
	"strings"
	"testing"

	"acheron/api"
	"acheron/text"
)

// P1.1: each character that there is, alone and between others.
func TestOfEachCharacter(t *testing.T) {
	for c := range 0x110000 {
		code := encode(c)
		s, e := text.Of(code)
		if e != api.OK {
			t.Fatalf("Of(%x): error %v", code, e)
		}
		if c >= 0xD800 && c <= 0xDFFF {
			if s.Len() != 3 || s.Text() != "\uFFFD\uFFFD\uFFFD" {
				t.Fatalf("Of(%x): %d characters", code, s.Len())
			}
			continue
		}
		if got, _ := s.At(0); s.Len() != 1 || got != c || s.Wide() != (c > 255) || s.Text() != code {
			t.Fatalf("Of(%x): %d characters, the first %d, wide %v, text %x", code, s.Len(), got, s.Wide(), s.Text())
		}
	}
	check(t, "Of", str(t, someChars()...), someChars())
}

// P1.1: what is no encoding, byte by byte.
func TestOfInvalid(t *testing.T) {
	const bad = 65533
	for _, x := range []struct {
		s    string
		want []int
	}{
		{"", nil},
		{"a\xffé", []int{97, bad, 233}},
		{"\x80", []int{bad}},
		{"\xbf\xbf", []int{bad, bad}},
		{"\xc0\x80", []int{bad, bad}},
		{"\xc1\xbf", []int{bad, bad}},
		{"\xc3", []int{bad}},
		{"\xc3\xc3\xa9", []int{bad, 233}},
		{"\xc3\"", []int{bad, 34}},
		{"\xe0\x80\x80", []int{bad, bad, bad}},
		{"\xe0\x9f\xbf", []int{bad, bad, bad}},
		{"\xe0\xa0\x80", []int{2048}},
		{"\xe2\x82", []int{bad, bad}},
		{"\xe2\x82a", []int{bad, bad, 97}},
		{"\xe2\xc3\xa9", []int{bad, 233}},
		{"\xed\xa0\x80", []int{bad, bad, bad}},
		{"\xed\xbf\xbf", []int{bad, bad, bad}},
		{"\xf0\x80\x80\x80", []int{bad, bad, bad, bad}},
		{"\xf0\x8f\xbf\xbf", []int{bad, bad, bad, bad}},
		{"\xf0\x90\x80", []int{bad, bad, bad}},
		{"\xf0\x90\x80\x80", []int{65536}},
		{"\xf4\x8f\xbf\xbf\x80", []int{1114111, bad}},
		{"\xf4\x90\x80\x80", []int{bad, bad, bad, bad}},
		{"\xf5\x80\x80\x80", []int{bad, bad, bad, bad}},
		{"\xf8\x88\x80\x80\x80", []int{bad, bad, bad, bad, bad}},
		{"\xef\xbf\xbd", []int{bad}},
		{"\xef\xbb\xbfa", []int{65279, 97}},
	} {
		check(t, "Of("+x.s+")", of(t, x.s), x.want)
	}
}

// decode reads bytes as the chapter says it: it tries each number of bytes that an encoding can have.
func decode(s string) []int {
	var l []int
	for s != "" {
		c, n := 65533, 1
		for size := 1; size <= min(4, len(s)); size++ {
			bits := int(s[0])
			if size > 1 {
				bits = int(s[0]) & (0x7F >> size)
			}
			for i := 1; i < size; i++ {
				bits = bits<<6 | int(s[i])&0x3F
			}
			if bits <= 0x10FFFF && (bits < 0xD800 || bits > 0xDFFF) && encode(bits) == s[:size] {
				c, n = bits, size
			}
		}
		l = append(l, c)
		s = s[n:]
	}
	return l
}

// P1.1: texts of bytes that are often part of encodings.
func TestOfAnyBytes(t *testing.T) {
	const some = "\x00a\"\\\x7f\x80\x8f\x90\x9f\xa0\xbf\xc0\xc1\xc2\xc3\xdf\xe0\xe1\xed\xef\xf0\xf3\xf4\xf5\xff"
	d := dice(1)
	for range 20000 {
		b := make([]byte, d.below(8))
		for i := range b {
			b[i] = some[d.below(len(some))]
		}
		want := decode(string(b))
		if got := chars(t, of(t, string(b))); !slices.Equal(got, want) {
			t.Fatalf("Of(%x): %v, want %v", b, got, want)
		}
	}
}

// P1.1: the limit counts characters, not bytes.
func TestOfLimit(t *testing.T) {
	for _, c := range []int{97, 233, 8364, 65536} {
		s := full(t, c)
		if s.Len() != api.MaxString || s.Text() != strings.Repeat(encode(c), api.MaxString) {
			t.Errorf("Of at the limit: %d characters", s.Len())
		}
		r, e := text.Of(strings.Repeat(encode(c), api.MaxString) + "a")
		errs(t, "Of beyond the limit", r, e, api.ErrLimit)
	}
	if s := of(t, strings.Repeat("\xff", api.MaxString)); s.Len() != api.MaxString {
		t.Errorf("Of of invalid bytes at the limit: %d", s.Len())
	}
	r, e := text.Of(strings.Repeat("\xff", api.MaxString+1))
	errs(t, "Of of invalid bytes beyond the limit", r, e, api.ErrLimit)
}

// P1.1: each byte is a character.
func TestLatin(t *testing.T) {
	var b []byte
	var want []int
	for i := range 256 {
		b = append(b, byte(i))
		want = append(want, i)
	}
	s, e := text.Latin(b)
	if e != api.OK {
		t.Fatalf("Latin: error %v", e)
	}
	check(t, "Latin", s, want)
	clear(b)
	check(t, "Latin, when its bytes have changed", s, want)
	if len(s.Text()) != 128+2*128 {
		t.Errorf("Latin: a text of %d bytes", len(s.Text()))
	}
	for _, b := range [][]byte{nil, {}} {
		if s, e := text.Latin(b); s != (text.Str{}) || e != api.OK {
			t.Errorf("Latin of nothing: %d characters, %v", s.Len(), e)
		}
	}
	if s, e := text.Latin(make([]byte, api.MaxString)); s.Len() != api.MaxString || e != api.OK {
		t.Errorf("Latin at the limit: %d characters, %v", s.Len(), e)
	}
	s, e = text.Latin(make([]byte, api.MaxString+1))
	errs(t, "Latin beyond the limit", s, e, api.ErrLimit)
}

// P1.1: the zero value is the empty string.
func TestZero(t *testing.T) {
	var s text.Str
	check(t, "the zero value", s, nil)
	if s.Text() != "" || text.Quote(s) != `""` || of(t, "") != s {
		t.Errorf("the zero value is not the empty string")
	}
}

// P1.2: At, and its error on both sides.
func TestAt(t *testing.T) {
	for _, s := range []text.Str{{}, str(t, 97, 233), str(t, someChars()...)} {
		for _, i := range []int{-1, -3, s.Len(), s.Len() + 1, math.MinInt, math.MaxInt} {
			if c, e := s.At(i); c != 0 || e != api.ErrRange {
				t.Errorf("At(%d) of %d characters: %d, %v", i, s.Len(), c, e)
			}
		}
	}
	for i, want := range someChars() {
		if c, e := str(t, someChars()...).At(i); c != want || e != api.OK {
			t.Errorf("At(%d): %d, %v, want %d", i, c, e, want)
		}
	}
}

// P1.2: every slice of a narrow string and of wide ones, and the errors.
func TestSlice(t *testing.T) {
	for _, l := range [][]int{nil, {97, 98, 233}, {97, 8364, 98, 233, 65536, 0}, someChars()} {
		s := str(t, l...)
		for from := -2; from <= len(l)+2; from++ {
			for to := -2; to <= len(l)+2; to++ {
				p, e := s.Slice(from, to)
				if from < 0 || from > to || to > len(l) {
					errs(t, "Slice", p, e, api.ErrRange)
					continue
				}
				if e != api.OK {
					t.Errorf("Slice(%d, %d): error %v", from, to, e)
				}
				check(t, "Slice", p, l[from:to])
			}
		}
		check(t, "what was sliced", s, l)
		for _, x := range [][2]int{{0, math.MaxInt}, {math.MinInt, 0}, {math.MaxInt, math.MaxInt}, {math.MaxInt, 0}} {
			p, e := s.Slice(x[0], x[1])
			errs(t, "Slice", p, e, api.ErrRange)
		}
	}
}

// P1.2: every character at every index, so that strings become wide and narrow.
func TestSet(t *testing.T) {
	for _, l := range [][]int{nil, {97}, {8364}, {97, 98, 233}, {97, 8364, 98}, {65536, 8364, 0}} {
		s := str(t, l...)
		for i := range len(l) + 1 {
			for _, c := range someChars() {
				r, e := s.Set(i, c)
				if e != api.OK {
					t.Errorf("Set(%d, %d): error %v", i, c, e)
				}
				want := append(slices.Clone(l), 0)[:max(i+1, len(l))]
				want[i] = c
				check(t, "Set", r, want)
			}
		}
		check(t, "what was set", s, l)
	}
}

// P1.2: the errors of Set, and their order.
func TestSetErrors(t *testing.T) {
	for _, s := range []text.Str{{}, str(t, 97, 98), str(t, 8364, 98, 99), full(t, 97), full(t, 65536)} {
		n := s.Len()
		for _, i := range []int{-1, n + 1, math.MinInt, math.MaxInt} {
			for _, c := range append(notChars(), someChars()...) {
				r, e := s.Set(i, c)
				errs(t, "Set out of the range", r, e, api.ErrRange)
			}
		}
		for _, i := range []int{0, n / 2, n} {
			for _, c := range notChars() {
				r, e := s.Set(i, c)
				errs(t, "Set of no character", r, e, api.ErrArg)
			}
		}
	}
	for _, c := range []int{97, 8364} {
		s := full(t, c)
		for _, by := range []int{97, 65536} {
			r, e := s.Set(api.MaxString, by)
			errs(t, "Set beyond the limit", r, e, api.ErrLimit)
			if r, e = s.Set(api.MaxString-1, by); r.Len() != api.MaxString || e != api.OK {
				t.Errorf("Set at the limit: %d characters, %v", r.Len(), e)
			}
		}
		p, _ := s.Slice(0, api.MaxString-1)
		if r, e := p.Set(api.MaxString-1, c); r != s || e != api.OK {
			t.Errorf("Set up to the limit: %d characters, %v", r.Len(), e)
		}
	}
}

// P1.2: Join of strings of both widths.
func TestJoin(t *testing.T) {
	parts := [][]int{nil, {97, 98}, {233}, {8364, 97}, {65536}, {0}}
	for _, a := range parts {
		for _, b := range parts {
			for _, c := range parts {
				l := []text.Str{str(t, a...), str(t, b...), str(t, c...), str(t, 300)}
				r, e := text.Join(l[:3]...)
				if e != api.OK {
					t.Errorf("Join: error %v", e)
				}
				check(t, "Join", r, slices.Concat(a, b, c))
				check(t, "a part of Join", l[0], a)
				check(t, "what is behind the parts of Join", l[3], []int{300})
			}
		}
	}
	if r, e := text.Join(); r != (text.Str{}) || e != api.OK {
		t.Errorf("Join of nothing: %d characters, %v", r.Len(), e)
	}
}

// P1.2: the limit of Join.
func TestJoinLimit(t *testing.T) {
	for _, c := range []int{97, 8364} {
		s := full(t, c)
		half, _ := s.Slice(0, api.MaxString/2)
		one := str(t, c)
		if r, e := text.Join(half, text.Str{}, half); r != s || e != api.OK {
			t.Errorf("Join at the limit: %d characters, %v", r.Len(), e)
		}
		for _, l := range [][]text.Str{{s, one}, {one, s}, {half, half, one}, {s, s, s}} {
			r, e := text.Join(l...)
			errs(t, "Join beyond the limit", r, e, api.ErrLimit)
		}
	}
}

// P1.3: the order of strings is that of their lists of characters.
func TestCompare(t *testing.T) {
	lists := [][]int{nil, {0}, {0, 0}, {97}, {97, 0}, {97, 98}, {97, 255}, {97, 256}, {98}, {255}, {256}, {256, 97},
		{257}, {511}, {512}, {97, 65535}, {97, 65536}, {65535}, {65536}, {1114111}, {97, 98, 8364}, {97, 98, 99}}
	for _, a := range lists {
		for _, b := range lists {
			if got, want := text.Compare(str(t, a...), str(t, b...)), slices.Compare(a, b); got != want {
				t.Errorf("Compare(%v, %v) = %d, want %d", a, b, got, want)
			}
		}
	}
}

// P1.3: Find finds what a search of each index finds.
func TestFind(t *testing.T) {
	d := dice(2)
	for _, set := range [][]int{{97, 98}, {97, 256}, {65793, 65536}, {97, 98, 353, 8364}} {
		list := func(n int) []int {
			l := make([]int, d.below(n))
			for i := range l {
				l[i] = set[d.below(len(set))]
			}
			return l
		}
		for range 3000 {
			s, part := list(24), list(5)
			if from := d.below(len(s) + 1); d.below(2) == 0 {
				part = s[from : from+d.below(len(s)-from+1)]
			}
			want := -1
			for i := len(s) - len(part); i >= 0; i-- {
				if slices.Equal(s[i:i+len(part)], part) {
					want = i
				}
			}
			if got := text.Find(str(t, s...), str(t, part...)); got != want {
				t.Fatalf("Find(%v, %v) = %d, want %d", s, part, got, want)
			}
		}
	}
}

// P1.3: named cases of Find: nothing in nothing, a part that is longer, bytes that look alike in another place, and
// the widest search.
func TestFindCases(t *testing.T) {
	for _, x := range []struct {
		s, part []int
		want    int
	}{
		{nil, nil, 0},
		{[]int{97}, nil, 0},
		{nil, []int{97}, -1},
		{[]int{97, 98}, []int{97, 98, 99}, -1},
		{[]int{97, 98}, []int{97, 98}, 0},
		{[]int{97, 98, 97, 97, 98, 97}, []int{97, 97}, 2},
		{[]int{97, 98, 97, 98, 97, 99}, []int{97, 98, 97, 99}, 2},
		{[]int{97, 97, 98, 97, 97, 97, 98, 97, 97, 97, 99}, []int{97, 97, 98, 97, 97, 97, 99}, 4},
		{[]int{65536, 0}, []int{0}, 1},
		{[]int{65536, 98}, []int{256}, -1},
		{[]int{0x10203, 0x10203, 0x10203}, []int{0x20301}, -1},
		{[]int{97, 233}, []int{8364}, -1},
	} {
		if got := text.Find(str(t, x.s...), str(t, x.part...)); got != x.want {
			t.Errorf("Find(%v, %v) = %d, want %d", x.s, x.part, got, x.want)
		}
	}
	for _, c := range []int{97, 8364} {
		s := full(t, c)
		half, _ := s.Slice(0, api.MaxString/2)
		part, _ := half.Set(api.MaxString/2, 98)
		if got := text.Find(s, part); got != -1 {
			t.Errorf("Find of a long part: %d", got)
		}
		ends, _ := s.Set(api.MaxString-1, 98)
		if got := text.Find(ends, part); got != api.MaxString/2-1 {
			t.Errorf("Find of a long part at the end: %d", got)
		}
	}
}
