package wire_test

import (
	"math"
	"slices"
	"strings"
	"testing"

	"acheron/api"
	"acheron/wire"
)

// value is a value of any kind, as it is written and read.
type value struct {
	kind int // one of those of kinds
	size int
	n    int64
	s    string
	l    []bool
}

const kinds = 7

func anyValue(d *dice) value {
	v := value{kind: d.below(kinds), size: 1 << d.below(4)}
	switch v.kind {
	case 0:
		v.n = d.number() & (1<<(8*v.size-1) - 1)
	case 1:
		v.n = d.number()
		v.n = v.n << (64 - 8*v.size) >> (64 - 8*v.size)
	case 2:
		v.n = d.number()
	case 3:
		v.n = d.number() & math.MaxInt64
	case 4, 6:
		v.s = d.bytes(d.below(80))
	case 5:
		v.l = d.bits(d.below(80))
	}
	return v
}

func (v value) write(w *wire.Writer) api.Errno {
	switch v.kind {
	case 0:
		return w.Little(v.n, v.size)
	case 1:
		return w.Signed(v.n, v.size)
	case 2, 3:
		return w.Number(v.n)
	case 4:
		return w.String(v.s)
	case 5:
		return w.Bits(v.l)
	}
	return w.Raw(v.s)
}

// read reads a value by the call that fits the one that has written v.
func (v value) read(r *wire.Reader) (value, api.Errno) {
	got, e, c := value{kind: v.kind, size: v.size}, api.OK, 0
	switch v.kind {
	case 0:
		got.n, e = r.Little(v.size)
	case 1:
		got.n, e = r.Signed(v.size)
	case 2:
		got.n, e = r.Number()
	case 3:
		c, e = r.Count(int(v.n))
		got.n = int64(c)
	case 4:
		got.s, e = r.String(len(v.s))
	case 5:
		got.l, e = r.Bits(len(v.l))
	case 6:
		got.s, e = r.Raw(len(v.s))
	}
	return got, e
}

func same(a, b value) bool {
	return a.n == b.n && a.s == b.s && slices.Equal(a.l, b.l)
}

// P2.4: what was written is read back, value by value, whatever follows, and nothing is left.
func TestWrittenIsRead(t *testing.T) {
	d := dice(3)
	for range 4000 {
		w := wire.NewWriter()
		var l []value
		for range d.below(12) {
			v := anyValue(&d)
			if e := v.write(w); e != api.OK {
				t.Fatalf("%#v: error %v", v, e)
			}
			l = append(l, v)
		}
		for _, more := range []string{"", "\x00", d.bytes(1 + d.below(9))} {
			r := wire.NewReader(w.Text() + more)
			for _, v := range l {
				if got, e := v.read(r); !same(got, v) || e != api.OK {
					t.Fatalf("%#v was read as %#v, %v", v, got, e)
				}
			}
			at(t, "behind all values", r, w.Len(), len(more), api.OK)
			if e := r.End(); more == "" && e != api.OK || more != "" && e != api.ErrForm {
				t.Errorf("End with %d bytes left: %v", len(more), e)
			}
		}
	}
}

// P2.4: what was read of any bytes is what a writer writes for it.
func TestReadIsWritten(t *testing.T) {
	const often = "\x00\x01\x02\x03\x05\x08\x3f\x40\x7f\x80\xbf\xc0\xdf\xe0\xe1\xff"
	d := dice(4)
	for range 200000 {
		b := []byte(d.bytes(d.below(14)))
		for i := range b {
			if d.below(2) == 0 {
				b[i] = often[d.below(len(often))]
			}
		}
		s := string(b)
		r, w := wire.NewReader(s), wire.NewWriter()
		for r.Left() > 0 {
			v := value{kind: d.below(kinds - 1), size: 1 << d.below(4)}
			v.n, v.s, v.l = math.MaxInt64, strings.Repeat("?", 80), make([]bool, 80)
			had := r.At()
			got, e := v.read(r)
			if e != api.OK {
				if !same(got, value{}) || r.At() != had {
					t.Fatalf("kind %d of %x: %#v, %v, At %d", v.kind, s[had:], got, e, r.At())
				}
				break
			}
			if e = got.write(w); e != api.OK || w.Text() != s[:r.At()] {
				t.Fatalf("kind %d of %x: %#v is written as %x, %v", v.kind, s[had:], got, w.Text(), e)
			}
		}
	}
}

// P2.4: of all texts of up to three bytes, each one that is an operand number or a bit map is the one of its value.
func TestOneEncoding(t *testing.T) {
	for n := range 1 << 24 {
		s := string([]byte{byte(n), byte(n >> 8), byte(n >> 16)})
		r := wire.NewReader(s)
		if v, e := r.Number(); e == api.OK && operand(v) != s[:r.At()] {
			t.Fatalf("Number of %x is %d", s, v)
		}
		r = wire.NewReader(s)
		if l, e := r.Bits(16); e == api.OK && bitMap(l) != s[:r.At()] {
			t.Fatalf("Bits of %x is %v", s, l)
		}
	}
}

// P2.4: of two operand numbers with one sign the one with fewer bytes is nearer to 0.
func TestFewerIsNearer(t *testing.T) {
	l := someNumbers()
	for _, a := range l {
		for _, b := range l {
			if (a < 0) == (b < 0) && wire.Size(a) < wire.Size(b) && !(a >= 0 && a < b || a < 0 && a > b) {
				t.Errorf("%d has fewer bytes than %d", a, b)
			}
		}
	}
}
