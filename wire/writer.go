package wire

import (
	"acheron/api"
)

// Writer collects the encodings of values.
type Writer struct{ data []byte }

// NewWriter returns an empty writer.
func NewWriter() *Writer { return &Writer{} }

// Little appends an unsigned little number.
func (w *Writer) Little(n int64, size int) api.Errno {
	switch {
	case w == nil:
		return api.ErrState
	case !isSize(size):
		return api.ErrArg
	case n>>(8*size) != 0: // of 8 bytes: n is negative
		return api.ErrRange
	}
	w.low(n, size)
	return api.OK
}

// Signed appends a signed little number.
func (w *Writer) Signed(n int64, size int) api.Errno {
	switch {
	case w == nil:
		return api.ErrState
	case !isSize(size):
		return api.ErrArg
	case !fits(n, 8*size):
		return api.ErrRange
	}
	w.low(n, size)
	return api.OK
}

// low appends the lowest bytes of a number, the least significant one first.
func (w *Writer) low(n int64, size int) {
	for i := range size {
		w.data = append(w.data, byte(n>>(8*i)))
	}
}

// Number appends an operand number.
func (w *Writer) Number(n int64) api.Errno {
	if w == nil {
		return api.ErrState
	}
	f := shapeOf(n)
	rest := 8 * (f.size - 1)
	w.data = append(w.data, f.mark|byte(n>>rest)&f.mask)
	for rest > 0 {
		rest -= 8
		w.data = append(w.data, byte(n>>rest))
	}
	return api.OK
}

// String appends a string with its length.
func (w *Writer) String(s string) api.Errno {
	switch {
	case w == nil:
		return api.ErrState
	case len(s) > api.MaxFile:
		return api.ErrLimit
	}
	w.Number(int64(len(s)))
	return w.Raw(s)
}

// Bits appends a bit map with its length.
func (w *Writer) Bits(l []bool) api.Errno {
	switch {
	case w == nil:
		return api.ErrState
	case len(l) > maxBits:
		return api.ErrLimit
	}
	w.Number(int64(len(l)))
	b := make([]byte, packed(len(l)))
	for i, on := range l {
		if on {
			b[i/8] |= place(i)
		}
	}
	w.data = append(w.data, b...)
	return api.OK
}

// Raw appends bytes.
func (w *Writer) Raw(s string) api.Errno {
	if w == nil {
		return api.ErrState
	}
	w.data = append(w.data, s...)
	return api.OK
}

// Text returns all bytes.
func (w *Writer) Text() string {
	if w == nil {
		return ""
	}
	return string(w.data)
}

// Len returns how many bytes there are.
func (w *Writer) Len() int {
	if w == nil {
		return 0
	}
	return len(w.data)
}
