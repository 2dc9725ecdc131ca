package wire_test

import (
	"math"
	"slices"
	"strings"
	"testing"

	"acheron/api"
	"acheron/wire"
)

// P2.2: where a reader is, from its beginning to its end.
func TestReaderGoesOn(t *testing.T) {
	r := wire.NewReader("\x02\x01\xfe\xff\x80\x40\x07\x02ab\x03\xa0xyz")
	at(t, "at the beginning", r, 0, 15, api.OK)
	if n, e := r.Little(2); n != 258 || e != api.OK {
		t.Errorf("Little: %d, %v", n, e)
	}
	at(t, "behind Little", r, 2, 13, api.OK)
	if n, e := r.Signed(2); n != -2 || e != api.OK {
		t.Errorf("Signed: %d, %v", n, e)
	}
	at(t, "behind Signed", r, 4, 11, api.OK)
	if n, e := r.Number(); n != 64 || e != api.OK {
		t.Errorf("Number: %d, %v", n, e)
	}
	at(t, "behind Number", r, 6, 9, api.OK)
	if n, e := r.Count(7); n != 7 || e != api.OK {
		t.Errorf("Count: %d, %v", n, e)
	}
	at(t, "behind Count", r, 7, 8, api.OK)
	if s, e := r.String(2); s != "ab" || e != api.OK {
		t.Errorf("String: %q, %v", s, e)
	}
	at(t, "behind String", r, 10, 5, api.OK)
	if l, e := r.Bits(3); !slices.Equal(l, []bool{true, false, true}) || e != api.OK {
		t.Errorf("Bits: %v, %v", l, e)
	}
	at(t, "behind Bits", r, 12, 3, api.OK)
	if s, e := r.Raw(3); s != "xyz" || e != api.OK {
		t.Errorf("Raw: %q, %v", s, e)
	}
	at(t, "behind Raw", r, 15, 0, api.OK)
	for range 2 {
		if e := r.End(); e != api.OK {
			t.Errorf("End: %v", e)
		}
	}
	if s, e := r.Raw(0); s != "" || e != api.OK {
		t.Errorf("Raw(0) at the end: %q, %v", s, e)
	}
	at(t, "at the end", r, 15, 0, api.OK)
}

// P2.2: little numbers of each size, with bytes behind them.
func TestReadLittle(t *testing.T) {
	for _, n := range someNumbers() {
		for _, size := range []int{1, 2, 4, 8} {
			s := little(n, size)
			r := wire.NewReader(s + "\xff")
			want := n << (64 - 8*size) >> (64 - 8*size)
			if got, e := r.Signed(size); got != want || e != api.OK {
				t.Errorf("Signed(%d) of %x: %d, %v, want %d", size, s, got, e, want)
			}
			at(t, "Signed", r, size, 1, api.OK)
			r = wire.NewReader(s + "\xff")
			got, e := r.Little(size)
			if size == 8 && n < 0 {
				if got != 0 || e != api.ErrRange {
					t.Errorf("Little(8) of %x: %d, %v", s, got, e)
				}
				at(t, "Little above the greatest", r, 0, 9, api.ErrRange)
				stays(t, "Little above the greatest", r, api.ErrRange)
				continue
			}
			if size < 8 {
				want = n & (1<<(8*size) - 1)
			}
			if got != want || e != api.OK {
				t.Errorf("Little(%d) of %x: %d, %v, want %d", size, s, got, e, want)
			}
			at(t, "Little", r, size, 1, api.OK)
		}
	}
}

// P2.2: the operand number of each form, with bytes behind it.
func TestReadNumber(t *testing.T) {
	for _, n := range someNumbers() {
		s := operand(n)
		r := wire.NewReader(s + "\xff")
		if got, e := r.Number(); got != n || e != api.OK {
			t.Errorf("Number of %x: %d, %v, want %d", s, got, e, n)
		}
		at(t, "Number", r, len(s), 1, api.OK)
		for cut := range len(s) {
			r := wire.NewReader(s[:cut])
			if got, e := r.Number(); got != 0 || e != api.ErrEnd {
				t.Errorf("Number of %x: %d, %v", s[:cut], got, e)
			}
			at(t, "Number, cut off", r, 0, cut, api.ErrEnd)
		}
	}
}

// P2.2: Count at, above and below its bound.
func TestReadCount(t *testing.T) {
	for _, n := range someNumbers() {
		for _, most := range []int{int(n), int(n) - 1, math.MaxInt, math.MinInt, 0, -1} {
			r := wire.NewReader(operand(n))
			want, err := n, api.OK
			switch {
			case n < 0:
				want, err = 0, api.ErrRange
			case n > int64(most):
				want, err = 0, api.ErrLimit
			}
			if got, e := r.Count(most); int64(got) != want || e != err || r.Err() != err {
				t.Errorf("Count(%d) of %d: %d, %v, want %v", most, n, got, e, err)
			}
		}
	}
}

// P2.2: strings up to the limit.
func TestReadString(t *testing.T) {
	for _, n := range []int{0, 1, 63, 64, 8191, 8192, api.MaxFile} {
		s := strings.Repeat("\xff\x00ab", n/4+1)[:n]
		for _, most := range []int{n, n + 1, math.MaxInt} {
			r := wire.NewReader(operand(int64(n)) + s + "\xff")
			if got, e := r.String(most); got != s || e != api.OK {
				t.Errorf("String(%d) of %d bytes: %d bytes, %v", most, n, len(got), e)
			}
			at(t, "String", r, len(operand(int64(n)))+n, 1, api.OK)
		}
	}
}

// P2.2: bit maps up to the limit; a result is new memory.
func TestReadBits(t *testing.T) {
	d := dice(2)
	for _, n := range []int{0, 1, 2, 7, 8, 9, 15, 16, 17, 63, 64, 65, 1000, maxBits - 1, maxBits} {
		l := d.bits(n)
		s := bitMap(l)
		for _, most := range []int{n, n + 1, math.MaxInt} {
			r := wire.NewReader(s + "\xff")
			got, e := r.Bits(most)
			if !slices.Equal(got, l) || e != api.OK {
				t.Errorf("Bits(%d) of %d bits: %d bits, %v", most, n, len(got), e)
			}
			at(t, "Bits", r, len(s), 1, api.OK)
		}
	}
	r := wire.NewReader("\x02\x80\x02\x80")
	a, _ := r.Bits(2)
	clear(a)
	if b, e := r.Bits(2); !slices.Equal(b, []bool{true, false}) || e != api.OK {
		t.Errorf("a second map: %v, %v", b, e)
	}
}

// P2.2: in the last byte of a map, any place that is left and not 0 is an error.
func TestReadBitsLeft(t *testing.T) {
	for n := 1; n <= 16; n++ {
		whole := (n + 7) / 8
		for last := range 256 {
			s := operand(int64(n)) + strings.Repeat("\xff", whole-1) + string([]byte{byte(last)})
			r := wire.NewReader(s)
			l, e := r.Bits(n)
			if used := n - 8*(whole-1); last%(1<<(8-used)) != 0 {
				if e != api.ErrForm || len(l) != 0 {
					t.Errorf("Bits of %x: %v, %v", s, l, e)
				}
				at(t, "Bits with more", r, 0, len(s), api.ErrForm)
				continue
			}
			if e != api.OK || bitMap(l) != s {
				t.Errorf("Bits of %x: %v, %v", s, l, e)
			}
		}
	}
}

// P2.2: Raw of any number of bytes that are left.
func TestReadRaw(t *testing.T) {
	const s = "a\x00\xff\"b"
	for from := range len(s) + 1 {
		for n := range len(s) - from + 1 {
			r := wire.NewReader(s)
			a, e := r.Raw(from)
			b, f := r.Raw(n)
			if a != s[:from] || b != s[from:from+n] || e != api.OK || f != api.OK {
				t.Errorf("Raw(%d), Raw(%d): %q, %q, %v, %v", from, n, a, b, e, f)
			}
			at(t, "Raw", r, from+n, len(s)-from-n, api.OK)
		}
	}
}

// errorCase is a text, a call, and its error.
type errorCase struct {
	s    string
	what string
	do   func(r *wire.Reader) (bool, api.Errno) // whether the value is zero
	want api.Errno
}

func onLittle(size int) func(r *wire.Reader) (bool, api.Errno) {
	return func(r *wire.Reader) (bool, api.Errno) { n, e := r.Little(size); return n == 0, e }
}

func onSigned(size int) func(r *wire.Reader) (bool, api.Errno) {
	return func(r *wire.Reader) (bool, api.Errno) { n, e := r.Signed(size); return n == 0, e }
}

func onNumber(r *wire.Reader) (bool, api.Errno) { n, e := r.Number(); return n == 0, e }

func onCount(most int) func(r *wire.Reader) (bool, api.Errno) {
	return func(r *wire.Reader) (bool, api.Errno) { n, e := r.Count(most); return n == 0, e }
}

func onString(most int) func(r *wire.Reader) (bool, api.Errno) {
	return func(r *wire.Reader) (bool, api.Errno) { s, e := r.String(most); return s == "", e }
}

func onBits(most int) func(r *wire.Reader) (bool, api.Errno) {
	return func(r *wire.Reader) (bool, api.Errno) { l, e := r.Bits(most); return len(l) == 0, e }
}

func onRaw(n int) func(r *wire.Reader) (bool, api.Errno) {
	return func(r *wire.Reader) (bool, api.Errno) { s, e := r.Raw(n); return s == "", e }
}

func onEnd(r *wire.Reader) (bool, api.Errno) { return true, r.End() }

// littleErrors has the errors of Little and Signed, in their order.
func littleErrors() []errorCase {
	var l []errorCase
	for _, size := range notSizes() {
		for _, s := range []string{"", strings.Repeat("\xff", 70)} {
			l = append(l, errorCase{s, "Little", onLittle(size), api.ErrArg}, errorCase{s, "Signed", onSigned(size), api.ErrArg})
		}
	}
	for _, size := range []int{1, 2, 4, 8} {
		for n := range size {
			s := strings.Repeat("\xff", n)
			l = append(l, errorCase{s, "Little", onLittle(size), api.ErrEnd}, errorCase{s, "Signed", onSigned(size), api.ErrEnd})
		}
	}
	return append(l, errorCase{"\x00\x00\x00\x00\x00\x00\x00\x80", "Little", onLittle(8), api.ErrRange})
}

// numberErrors has the errors of an operand number, in their order.
func numberErrors() []errorCase {
	l := []errorCase{{"", "Number", nil, api.ErrEnd}}
	for first := 0xE1; first <= 0xFF; first++ {
		for _, more := range []int{0, 1, 8, 20} {
			s := string([]byte{byte(first)}) + strings.Repeat("\x00", more)
			l = append(l, errorCase{s, "Number", nil, api.ErrForm})
		}
	}
	for _, s := range []string{"\x80", "\xbf", "\x9f", "\xc0", "\xc0\x00", "\xdf\xff\xff", "\xe0", "\xe0\x00\x00\x00\x00\x00\x00\x00"} {
		l = append(l, errorCase{s, "Number", nil, api.ErrEnd})
	}
	for _, s := range []string{
		"\x80\x00", "\x80\x3f", "\xbf\xff", "\xbf\xc0",
		"\xc0\x00\x00\x00", "\xc0\x00\x1f\xff", "\xdf\xff\xe0\x00", "\xdf\xff\xff\xff",
		"\xe0\x00\x00\x00\x00\x00\x00\x00\x00", "\xe0\x00\x00\x00\x00\x0f\xff\xff\xff",
		"\xe0\xff\xff\xff\xff\xf0\x00\x00\x00", "\xe0\xff\xff\xff\xff\xff\xff\xff\xff",
	} {
		l = append(l, errorCase{s, "Number", nil, api.ErrForm}, errorCase{s + "more bytes", "Number", nil, api.ErrForm})
	}
	return l
}

// countErrors has the errors of a number with a bound: those of an operand number, and then its own.
func countErrors() []errorCase {
	l := slices.Clone(numberErrors())
	for i := range l {
		l[i].do = onNumber
	}
	bounded := []func(most int) func(r *wire.Reader) (bool, api.Errno){onCount, onString, onBits}
	for i, on := range bounded {
		what := []string{"Count", "String", "Bits"}[i]
		for _, most := range []int{-1, 0, 9, math.MaxInt, math.MinInt} {
			for _, x := range numberErrors() {
				l = append(l, errorCase{x.s, what, on(most), x.want})
			}
			for _, n := range []int64{-1, -64, -65, -1 << 28, math.MinInt64} {
				l = append(l, errorCase{operand(n), what, on(most), api.ErrRange})
			}
		}
		for _, most := range []int{-1, -64, math.MinInt} {
			for _, s := range []string{"\x00", "\x01", "\x01\x80", operand(math.MaxInt64)} {
				l = append(l, errorCase{s, what, on(most), api.ErrLimit})
			}
		}
		for _, most := range []int{0, 62, 63, 64, 8191} {
			n := operand(int64(most) + 1)
			l = append(l, errorCase{n, what, on(most), api.ErrLimit},
				errorCase{n + strings.Repeat("\x01", most+1), what, on(most), api.ErrLimit})
		}
	}
	return l
}

// P2.2 and the section on errors: each error of a reader, at which it stays, with zero values from then on.
func TestReaderErrors(t *testing.T) {
	l := append(littleErrors(), countErrors()...)
	file, bits := operand(api.MaxFile+1), operand(maxBits+1)
	l = append(l,
		errorCase{file, "String", onString(math.MaxInt), api.ErrLimit},
		errorCase{file, "String", onString(api.MaxFile + 1), api.ErrLimit},
		errorCase{operand(math.MaxInt64), "String", onString(math.MaxInt), api.ErrLimit},
		errorCase{operand(api.MaxFile), "String", onString(math.MaxInt), api.ErrEnd},
		errorCase{"\x02a", "String", onString(2), api.ErrEnd},
		errorCase{"\x01", "String", onString(2), api.ErrEnd},
		errorCase{bits, "Bits", onBits(math.MaxInt), api.ErrLimit},
		errorCase{bits, "Bits", onBits(maxBits + 1), api.ErrLimit},
		errorCase{operand(math.MaxInt64), "Bits", onBits(math.MaxInt), api.ErrLimit},
		errorCase{operand(maxBits), "Bits", onBits(math.MaxInt), api.ErrEnd},
		errorCase{"\x01", "Bits", onBits(1), api.ErrEnd},
		errorCase{"\x08", "Bits", onBits(8), api.ErrEnd},
		errorCase{"\x09\xff", "Bits", onBits(9), api.ErrEnd},
		errorCase{"\x03\xb0", "Bits", onBits(3), api.ErrForm},
		errorCase{"\x01\x81", "Bits", onBits(9), api.ErrForm},
		errorCase{"ab", "Raw", onRaw(3), api.ErrEnd},
		errorCase{"", "Raw", onRaw(1), api.ErrEnd},
		errorCase{"ab", "Raw", onRaw(math.MaxInt), api.ErrEnd},
		errorCase{"", "Raw", onRaw(-1), api.ErrRange},
		errorCase{"ab", "Raw", onRaw(-1), api.ErrRange},
		errorCase{"ab", "Raw", onRaw(math.MinInt), api.ErrRange},
		errorCase{"a", "End", onEnd, api.ErrForm},
		errorCase{"\x00\x00", "End", onEnd, api.ErrForm})
	for _, x := range l {
		for _, before := range []string{"", "abc"} {
			r := wire.NewReader(before + x.s)
			r.Raw(len(before))
			zero, e := x.do(r)
			if !zero || e != x.want {
				t.Errorf("%s of %x: zero %v, error %v, want %v", x.what, short(x.s), zero, e, x.want)
			}
			at(t, x.what, r, len(before), len(x.s), x.want)
			stays(t, x.what, r, x.want)
		}
	}
}

// P2.2: a limit on bytes, with all bytes there.
func TestReadStringBeyond(t *testing.T) {
	s := operand(api.MaxFile+1) + strings.Repeat("a", api.MaxFile+1)
	r := wire.NewReader(s)
	if got, e := r.String(math.MaxInt); got != "" || e != api.ErrLimit {
		t.Errorf("String beyond the limit: %d bytes, %v", len(got), e)
	}
	at(t, "String beyond the limit", r, 0, len(s), api.ErrLimit)
	s = operand(maxBits+1) + strings.Repeat("\x00", maxBits/8+1)
	r = wire.NewReader(s)
	if got, e := r.Bits(math.MaxInt); len(got) != 0 || e != api.ErrLimit {
		t.Errorf("Bits beyond the limit: %d bits, %v", len(got), e)
	}
	at(t, "Bits beyond the limit", r, 0, len(s), api.ErrLimit)
}

// P2.2: readers of one text do not know of each other.
func TestTwoReaders(t *testing.T) {
	const s = "\x05\x06"
	a, b := wire.NewReader(s), wire.NewReader(s)
	a.Number()
	a.Little(3)
	at(t, "the one", a, 1, 1, api.ErrArg)
	at(t, "the other one", b, 0, 2, api.OK)
	if n, e := b.Number(); n != 5 || e != api.OK {
		t.Errorf("the other one: %d, %v", n, e)
	}
}

// The section on errors: a nil reader.
func TestNilReader(t *testing.T) {
	var r *wire.Reader
	at(t, "a nil reader", r, 0, 0, api.ErrState)
	stays(t, "a nil reader", r, api.ErrState)
}
