package wire_test

import (
	"math"
	"strconv"
	"strings"
	"testing"

	"acheron/api"
	"acheron/wire"
)

const maxBits = 65536

// bytesOf returns the bytes of a text of bits, the first one in the highest place; places that are left are 0.
func bytesOf(bits string) string {
	bits += strings.Repeat("0", (8-len(bits)%8)%8)
	var b []byte
	for ; bits != ""; bits = bits[8:] {
		n, _ := strconv.ParseUint(bits[:8], 2, 8)
		b = append(b, byte(n))
	}
	return string(b)
}

// lowBits returns the lowest bits of a number in two's complement, as a text.
func lowBits(n int64, bits int) string {
	s := strconv.FormatUint(uint64(n), 2)
	s = strings.Repeat("0", 64-len(s)) + s
	return s[64-bits:]
}

// operand is the encoding of an operand number, as the chapter's section Definitions says it.
func operand(n int64) string {
	switch {
	case n >= -64 && n <= 63:
		return bytesOf("0" + lowBits(n, 7))
	case n >= -8192 && n <= 8191:
		return bytesOf("10" + lowBits(n, 14))
	case n >= -268435456 && n <= 268435455:
		return bytesOf("110" + lowBits(n, 29))
	}
	return bytesOf("11100000" + lowBits(n, 64))
}

// little is the encoding of a little number.
func little(n int64, size int) string {
	s := bytesOf(lowBits(n, 8*size))
	var b []byte
	for i := range size {
		b = append(b, s[size-1-i])
	}
	return string(b)
}

// bitMap is the encoding of a bit map.
func bitMap(l []bool) string {
	var b strings.Builder
	for _, on := range l {
		if on {
			b.WriteByte('1')
		} else {
			b.WriteByte('0')
		}
	}
	return operand(int64(len(l))) + bytesOf(b.String())
}

// someNumbers has the numbers around each power of 2 and its negative.
func someNumbers() []int64 {
	l := []int64{math.MinInt64, math.MinInt64 + 1, math.MaxInt64, math.MaxInt64 - 1}
	for k := range 63 {
		for d := int64(-3); d <= 3; d++ {
			l = append(l, 1<<k+d, -1<<k+d)
		}
	}
	return l
}

// notSizes has numbers that are no size of a little number.
func notSizes() []int {
	return []int{0, -1, -2, -8, 3, 5, 6, 7, 9, 16, 64, 1<<32 + 1, math.MinInt, math.MaxInt}
}

// wrote fails unless a call of a writer appended the bytes, and gave the error.
func wrote(t *testing.T, what string, do func(w *wire.Writer) api.Errno, want string, err api.Errno) {
	t.Helper()
	w := wire.NewWriter()
	for _, before := range []string{"", "\xe0before"} {
		w.Raw(before)
		had := w.Text()
		if e := do(w); e != err {
			t.Errorf("%s: error %v, want %v", what, e, err)
		}
		if got := w.Text(); got != had+want {
			t.Errorf("%s: %x behind %x, want %x behind it", what, short(got), short(had), short(want))
		}
		if w.Len() != len(had)+len(want) {
			t.Errorf("%s: Len is %d, want %d", what, w.Len(), len(had)+len(want))
		}
	}
}

// at fails unless a reader is at a place, with so many bytes left, and so stopped.
func at(t *testing.T, what string, r *wire.Reader, at, left int, err api.Errno) {
	t.Helper()
	if r.At() != at || r.Left() != left || r.Err() != err {
		t.Errorf("%s: At %d, Left %d, Err %v, want %d, %d, %v", what, r.At(), r.Left(), r.Err(), at, left, err)
	}
}

// stays fails unless a reader that is stopped answers each call with the error and zero values, and stays where it is.
func stays(t *testing.T, what string, r *wire.Reader, err api.Errno) {
	t.Helper()
	was, left := r.At(), r.Left()
	same := func(call string, zero bool, e api.Errno) {
		t.Helper()
		if !zero || e != err {
			t.Errorf("%s, then %s: zero %v, error %v, want %v", what, call, zero, e, err)
		}
	}
	for _, n := range []int{-1, 0, 1, 2, 3, 8, math.MaxInt} {
		a, e := r.Little(n)
		same("Little", a == 0, e)
		a, e = r.Signed(n)
		same("Signed", a == 0, e)
		c, e := r.Count(n)
		same("Count", c == 0, e)
		s, e := r.String(n)
		same("String", s == "", e)
		l, e := r.Bits(n)
		same("Bits", len(l) == 0, e)
		s, e = r.Raw(n)
		same("Raw", s == "", e)
	}
	a, e := r.Number()
	same("Number", a == 0, e)
	same("End", true, r.End())
	at(t, what, r, was, left, err)
}

// short cuts a text off for a message.
func short(s string) string { return s[:min(len(s), 40)] }

// dice is a sequence of numbers that is the same in each run.
type dice uint64

func (d *dice) next() uint64 {
	*d = *d*6364136223846793005 + 1442695040888963407
	return uint64(*d) >> 32
}

func (d *dice) below(n int) int { return int(d.next()) % n }

// number returns a number of which each size is as likely.
func (d *dice) number() int64 {
	n := int64(d.next()<<32 | d.next())
	return n >> d.below(64)
}

func (d *dice) bits(n int) []bool {
	var l []bool
	for range n {
		l = append(l, d.below(2) == 1)
	}
	return l
}

func (d *dice) bytes(n int) string {
	var b []byte
	for range n {
		b = append(b, byte(d.next()))
	}
	return string(b)
}
