package wire_test

import (
	"math"
	"strings"
	"testing"

	"acheron/api"
	"acheron/wire"
)

// P2.1: a new writer is empty, and no other one.
func TestNewWriter(t *testing.T) {
	a, b := wire.NewWriter(), wire.NewWriter()
	a.Raw("a")
	if a.Text() != "a" || a.Len() != 1 || b.Text() != "" || b.Len() != 0 {
		t.Errorf("two writers: %q, %d and %q, %d", a.Text(), a.Len(), b.Text(), b.Len())
	}
}

// P2.1: every number of one byte and of two, in both forms, and those around them.
func TestWriteShortLittle(t *testing.T) {
	for size := 1; size <= 2; size++ {
		n := int64(1) << (8 * size)
		for i := -n; i <= n; i++ {
			w := wire.NewWriter()
			e := w.Little(i, size)
			if want, err := ifIn(i, 0, n-1, size); w.Text() != want || e != err {
				t.Fatalf("Little(%d, %d): %x, %v, want %x, %v", i, size, w.Text(), e, want, err)
			}
			w = wire.NewWriter()
			e = w.Signed(i, size)
			if want, err := ifIn(i, -n/2, n/2-1, size); w.Text() != want || e != err {
				t.Fatalf("Signed(%d, %d): %x, %v, want %x, %v", i, size, w.Text(), e, want, err)
			}
		}
	}
}

// ifIn returns the encoding of a number that is from low to high, or the error that it is not.
func ifIn(n, low, high int64, size int) (string, api.Errno) {
	if n < low || n > high {
		return "", api.ErrRange
	}
	return little(n, size), api.OK
}

// P2.1: Little and Signed on both sides of each bound.
func TestWriteLittle(t *testing.T) {
	bounds := []struct {
		size           int
		top, low, high int64
	}{
		{1, 255, -128, 127},
		{2, 65535, -32768, 32767},
		{4, 4294967295, -2147483648, 2147483647},
		{8, math.MaxInt64, math.MinInt64, math.MaxInt64},
	}
	for _, n := range someNumbers() {
		for _, x := range bounds {
			want, err := ifIn(n, 0, x.top, x.size)
			wrote(t, "Little", func(w *wire.Writer) api.Errno { return w.Little(n, x.size) }, want, err)
			want, err = ifIn(n, x.low, x.high, x.size)
			wrote(t, "Signed", func(w *wire.Writer) api.Errno { return w.Signed(n, x.size) }, want, err)
		}
	}
}

// P2.1: a wrong size comes before a wrong number.
func TestWriteLittleSizes(t *testing.T) {
	for _, size := range notSizes() {
		for _, n := range []int64{0, 1, -1, 1 << 40, math.MinInt64, math.MaxInt64} {
			wrote(t, "Little", func(w *wire.Writer) api.Errno { return w.Little(n, size) }, "", api.ErrArg)
			wrote(t, "Signed", func(w *wire.Writer) api.Errno { return w.Signed(n, size) }, "", api.ErrArg)
		}
	}
}

// P2.1: bytes that the chapter has, and some more that were worked out by hand.
func TestWriteExamples(t *testing.T) {
	for _, x := range []struct {
		do   func(w *wire.Writer) api.Errno
		want string
	}{
		{func(w *wire.Writer) api.Errno { return w.Number(5) }, "\x05"},
		{func(w *wire.Writer) api.Errno { return w.Number(-1) }, "\x7f"},
		{func(w *wire.Writer) api.Errno { return w.Number(64) }, "\x80\x40"},
		{func(w *wire.Writer) api.Errno { return w.Number(-65) }, "\xbf\xbf"},
		{func(w *wire.Writer) api.Errno { return w.Number(8192) }, "\xc0\x00\x20\x00"},
		{func(w *wire.Writer) api.Errno { return w.Number(1 << 28) }, "\xe0\x00\x00\x00\x00\x10\x00\x00\x00"},
		{func(w *wire.Writer) api.Errno { return w.Number(-1<<28 - 1) }, "\xe0\xff\xff\xff\xff\xef\xff\xff\xff"},
		{func(w *wire.Writer) api.Errno { return w.Number(math.MaxInt64) }, "\xe0\x7f\xff\xff\xff\xff\xff\xff\xff"},
		{func(w *wire.Writer) api.Errno { return w.Signed(-2, 2) }, "\xfe\xff"},
		{func(w *wire.Writer) api.Errno { return w.Little(0x12345678, 4) }, "\x78\x56\x34\x12"},
		{func(w *wire.Writer) api.Errno { return w.Little(0x0102030405060708, 8) }, "\x08\x07\x06\x05\x04\x03\x02\x01"},
		{func(w *wire.Writer) api.Errno { return w.String("ab") }, "\x02ab"},
		{func(w *wire.Writer) api.Errno { return w.Bits([]bool{true, false, true}) }, "\x03\xa0"},
		{func(w *wire.Writer) api.Errno { return w.Bits([]bool{7: true, 8: true}) }, "\x09\x01\x80"},
	} {
		wrote(t, "an example", x.do, x.want, api.OK)
	}
}

// P2.1: Number around each power of 2, and all numbers around 0.
func TestWriteNumber(t *testing.T) {
	l := someNumbers()
	for n := int64(-9000); n <= 9000; n++ {
		l = append(l, n)
	}
	for _, n := range l {
		wrote(t, "Number", func(w *wire.Writer) api.Errno { return w.Number(n) }, operand(n), api.OK)
	}
}

// P2.1: String up to its limit, of any bytes.
func TestWriteString(t *testing.T) {
	for _, n := range []int{0, 1, 2, 63, 64, 65, 8191, 8192, 8193, api.MaxFile - 1, api.MaxFile} {
		s := strings.Repeat("\xffa\x00\"", n/4+1)[:n]
		wrote(t, "String", func(w *wire.Writer) api.Errno { return w.String(s) }, operand(int64(n))+s, api.OK)
	}
	s := strings.Repeat("a", api.MaxFile+1)
	wrote(t, "String beyond the limit", func(w *wire.Writer) api.Errno { return w.String(s) }, "", api.ErrLimit)
}

// P2.1: Bits of every map of up to 10 bits, and of lengths up to the limit.
func TestWriteBits(t *testing.T) {
	for n := range 11 {
		for u := range 1 << n {
			l := make([]bool, n)
			for i := range l {
				l[i] = u>>i&1 == 1
			}
			wrote(t, "Bits", func(w *wire.Writer) api.Errno { return w.Bits(l) }, bitMap(l), api.OK)
		}
	}
	d := dice(1)
	for _, n := range []int{15, 16, 17, 63, 64, 65, 500, 512, maxBits - 1, maxBits} {
		l := d.bits(n)
		wrote(t, "Bits", func(w *wire.Writer) api.Errno { return w.Bits(l) }, bitMap(l), api.OK)
	}
	l := make([]bool, maxBits+1)
	wrote(t, "Bits beyond the limit", func(w *wire.Writer) api.Errno { return w.Bits(l) }, "", api.ErrLimit)
	wrote(t, "Bits of nil", func(w *wire.Writer) api.Errno { return w.Bits(nil) }, "\x00", api.OK)
}

// P2.1: Raw has no limit and no length in front.
func TestWriteRaw(t *testing.T) {
	for _, s := range []string{"", "\x00", "ab\xff", strings.Repeat("x", api.MaxFile+5)} {
		wrote(t, "Raw", func(w *wire.Writer) api.Errno { return w.Raw(s) }, s, api.OK)
	}
}

// P2.1: what a writer was given and has returned is not changed, and not kept.
func TestWriterKeepsNothing(t *testing.T) {
	l := []bool{true, true, false, true}
	w := wire.NewWriter()
	w.Bits(l[:3])
	if l[3] != true || l[0] != true {
		t.Errorf("Bits has changed its argument: %v", l)
	}
	clear(l)
	first := w.Text()
	w.Raw("more")
	if first != "\x03\xc0" || w.Text() != "\x03\xc0more" || w.Len() != 6 {
		t.Errorf("Text: %x, then %x", first, w.Text())
	}
}

// P2.1 and the section on errors: a nil writer.
func TestNilWriter(t *testing.T) {
	var w *wire.Writer
	for i, e := range []api.Errno{w.Little(1, 1), w.Little(-1, 3), w.Signed(1, 1), w.Signed(1<<40, 1), w.Signed(1, 3),
		w.Number(1), w.String("a"), w.String(strings.Repeat("a", api.MaxFile+1)), w.Bits(nil),
		w.Bits(make([]bool, maxBits+1)), w.Raw("a"), w.Raw("")} {
		if e != api.ErrState {
			t.Errorf("call %d of a nil writer: error %v", i, e)
		}
	}
	if w.Text() != "" || w.Len() != 0 {
		t.Errorf("a nil writer: %q, %d", w.Text(), w.Len())
	}
}

// P2.3: Size is the number of bytes that Number appends.
func TestSize(t *testing.T) {
	for _, x := range []struct {
		n    int64
		want int
	}{
		{0, 1}, {63, 1}, {64, 2}, {-1, 1}, {-64, 1}, {-65, 2}, {8191, 2}, {8192, 4}, {-8192, 2}, {-8193, 4},
		{1<<28 - 1, 4}, {1 << 28, 9}, {-1 << 28, 4}, {-1<<28 - 1, 9}, {1 << 32, 9}, {math.MaxInt64, 9}, {math.MinInt64, 9},
	} {
		if got := wire.Size(x.n); got != x.want {
			t.Errorf("Size(%d) = %d, want %d", x.n, got, x.want)
		}
	}
	for _, n := range someNumbers() {
		if got := wire.Size(n); got != len(operand(n)) {
			t.Errorf("Size(%d) = %d, want %d", n, got, len(operand(n)))
		}
	}
}
