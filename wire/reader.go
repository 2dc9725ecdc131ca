package wire

import (
	"acheron/api"
)

// Reader reads values from a string.
type Reader struct {
	text string
	at   int
	err  api.Errno // stops the reader
}

// NewReader returns a reader at the beginning of a string.
func NewReader(s string) *Reader { return &Reader{text: s} }

// next lets a function read a value from what is left; it returns the value and how many bytes that has. The reader
// goes on only behind a whole value, so that an error within one leaves it where it was.
func next[T any](r *Reader, read func(s string) (T, int, api.Errno)) (T, api.Errno) {
	var none T
	if e := r.Err(); e != api.OK {
		return none, e
	}
	v, n, e := read(r.text[r.at:])
	if e != api.OK {
		r.err = e
		return none, e
	}
	r.at += n
	return v, api.OK
}

// Little reads an unsigned little number.
func (r *Reader) Little(size int) (int64, api.Errno) {
	return next(r, func(s string) (int64, int, api.Errno) {
		u, e := low(s, size)
		switch {
		case e != api.OK:
			return 0, 0, e
		case u > 1<<63-1:
			return 0, 0, api.ErrRange
		}
		return int64(u), size, api.OK
	})
}

// Signed reads a signed little number.
func (r *Reader) Signed(size int) (int64, api.Errno) {
	return next(r, func(s string) (int64, int, api.Errno) {
		u, e := low(s, size)
		if e != api.OK {
			return 0, 0, e
		}
		return signed(u, 8*size), size, api.OK
	})
}

// low returns the bytes with which a string begins as one number, the least significant one first.
func low(s string, size int) (uint64, api.Errno) {
	switch {
	case !isSize(size):
		return 0, api.ErrArg
	case len(s) < size:
		return 0, api.ErrEnd
	}
	var u uint64
	for i := range size {
		u |= uint64(s[i]) << (8 * i)
	}
	return u, api.OK
}

// Number reads an operand number.
func (r *Reader) Number() (int64, api.Errno) { return next(r, number) }

// number returns the operand number with which a string begins, and how many bytes that has.
func number(s string) (int64, int, api.Errno) {
	if s == "" {
		return 0, 0, api.ErrEnd
	}
	f, ok := shapeFrom(s[0])
	switch {
	case !ok:
		return 0, 0, api.ErrForm
	case len(s) < f.size:
		return 0, 0, api.ErrEnd
	}
	var u uint64
	for i := range f.size {
		u = u<<8 | uint64(s[i])
	}
	n := signed(u, f.bits)
	if Size(n) != f.size {
		return 0, 0, api.ErrForm
	}
	return n, f.size, api.OK
}

// Count reads an operand number from 0 to most.
func (r *Reader) Count(most int) (int, api.Errno) {
	return next(r, func(s string) (int, int, api.Errno) { return count(s, most) })
}

// count returns the number from 0 to most with which a string begins, and how many bytes that has.
func count(s string, most int) (int, int, api.Errno) {
	n, size, e := number(s)
	switch {
	case e != api.OK:
		return 0, 0, e
	case n < 0:
		return 0, 0, api.ErrRange
	case n > int64(most):
		return 0, 0, api.ErrLimit
	}
	return int(n), size, api.OK
}

// String reads a string of at most as many bytes.
func (r *Reader) String(most int) (string, api.Errno) {
	return next(r, func(s string) (string, int, api.Errno) {
		n, from, e := count(s, min(most, api.MaxFile))
		switch {
		case e != api.OK:
			return "", 0, e
		case len(s)-from < n:
			return "", 0, api.ErrEnd
		}
		return s[from : from+n], from + n, api.OK
	})
}

// Bits reads a bit map of at most as many bits.
func (r *Reader) Bits(most int) ([]bool, api.Errno) {
	return next(r, func(s string) ([]bool, int, api.Errno) {
		n, from, e := count(s, min(most, maxBits))
		to := from + packed(n)
		switch {
		case e != api.OK:
			return nil, 0, e
		case len(s) < to:
			return nil, 0, api.ErrEnd
		case n%8 > 0 && s[to-1]<<(n%8) != 0: // what is left behind the last bit
			return nil, 0, api.ErrForm
		}
		l := make([]bool, n)
		for i := range l {
			l[i] = s[from+i/8]&place(i) != 0
		}
		return l, to, api.OK
	})
}

// Raw reads n bytes.
func (r *Reader) Raw(n int) (string, api.Errno) {
	return next(r, func(s string) (string, int, api.Errno) {
		switch {
		case n < 0:
			return "", 0, api.ErrRange
		case len(s) < n:
			return "", 0, api.ErrEnd
		}
		return s[:n], n, api.OK
	})
}

// End returns OK if nothing is left.
func (r *Reader) End() api.Errno {
	_, e := next(r, func(s string) (bool, int, api.Errno) {
		if s != "" {
			return false, 0, api.ErrForm
		}
		return true, 0, api.OK
	})
	return e
}

// Err returns the error that stopped the reader, or OK.
func (r *Reader) Err() api.Errno {
	if r == nil {
		return api.ErrState
	}
	return r.err
}

// At returns how many bytes were read.
func (r *Reader) At() int {
	if r == nil {
		return 0
	}
	return r.at
}

// Left returns how many bytes are left.
func (r *Reader) Left() int {
	if r == nil {
		return 0
	}
	return len(r.text) - r.at
}
