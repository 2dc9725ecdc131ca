package number_test

import (
	"math"
	"math/big"

	"acheron/api"
)

const nan = 0x7FF8000000000001

func kinds() []int    { return []int{api.TByte, api.TInt, api.TBig, api.TReal} }
func integers() []int { return []int{api.TByte, api.TInt, api.TBig} }

// notKinds has what is no kind of numbers.
func notKinds() []int {
	return []int{api.TVoid, api.TString, api.TArray, api.TRef, api.TNil, api.TNil + 1, -1, math.MaxInt, math.MinInt,
		1<<32 + api.TInt}
}

// notOps has what is no operator, with some that become one when they are cut off.
func notOps() []int {
	return []int{-1, api.OpIsNot + 1, 20, 64, 256, 1<<32 + api.OpEq, 1 << 32, math.MaxInt, math.MinInt}
}

func bits(x float64) int64 { return int64(math.Float64bits(x)) }

func float(n int64) float64 { return math.Float64frombits(uint64(n)) }

func width(kind int) int {
	switch kind {
	case api.TByte:
		return 8
	case api.TInt:
		return 32
	}
	return 64
}

func whole(n int64) *big.Int { return big.NewInt(n) }

// least and greatest are the bounds of a kind of integers.
func least(kind int) *big.Int {
	if kind == api.TByte {
		return whole(0)
	}
	n := new(big.Int).Lsh(whole(1), uint(width(kind)-1))
	return n.Neg(n)
}

func greatest(kind int) *big.Int {
	n := new(big.Int).Lsh(whole(1), uint(width(kind)))
	n.Add(n, least(kind))
	return n.Sub(n, whole(1))
}

// wrapped is the number of a kind of integers that differs from n by a multiple of 2^width.
func wrapped(kind int, n *big.Int) int64 {
	modulus := new(big.Int).Lsh(whole(1), uint(width(kind)))
	r := new(big.Int).Mod(n, modulus)
	if r.Cmp(greatest(kind)) > 0 {
		r.Sub(r, modulus)
	}
	return r.Int64()
}

// wrap is the chapter's wrapping, written out.
func wrap(kind int, n int64) int64 {
	if kind != api.TReal {
		return wrapped(kind, whole(n))
	}
	if n>>52&0x7FF == 0x7FF && n&(1<<52-1) != 0 {
		return nan
	}
	return n
}

// saturated is n, or the bound of a kind of integers that it is beyond; of a byte, those of an int, wrapped.
func saturated(kind int, n *big.Int) int64 {
	bounds := kind
	if kind == api.TByte {
		bounds = api.TInt
	}
	if low := least(bounds); n.Cmp(low) < 0 {
		n = low
	}
	if high := greatest(bounds); n.Cmp(high) > 0 {
		n = high
	}
	return wrapped(kind, n)
}

// someNumbers has numbers on both sides of each bound of each kind, the bits of special reals, and others.
func someNumbers() []int64 {
	l := []int64{0, 1, 2, 3, 5, 7, 10, 97, 127, 128, 129, 200, 254, 255, 256, 257, 300, 32767, 32768, 65535, 65536,
		46340, 46341, 1<<31 - 1, 1 << 31, 1<<31 + 1, 1<<32 - 1, 1 << 32, 1<<32 + 1, 3037000499, 3037000500,
		1<<53 - 1, 1 << 53, 1<<53 + 1, 1<<62 - 1, 1 << 62, math.MaxInt64 - 1, math.MaxInt64, math.MinInt64,
		math.MinInt64 + 1, math.MinInt64 + 2, nan, bits(0.5), bits(1), bits(-2.5), bits(1e300), bits(math.Inf(1))}
	d := dice(3)
	for range 12 {
		l = append(l, d.next(), d.next()>>32, d.next()>>56)
	}
	for _, n := range l[:len(l):len(l)] {
		l = append(l, -n)
	}
	return l
}

// someReals has reals of all sizes: the special ones, those beside bounds and midway between integers, and others.
func someReals() []float64 {
	l := []float64{0, 5e-324, 1e-323, 2.2250738585072009e-308, 2.2250738585072014e-308, 1e-300, 1e-20, 0.1, 0.25,
		0.49999999999999994, 0.5, 0.5000000000000001, 0.9999999999999999, 1, 1.0000000000000002, 1.4, 1.5, 2, 2.5, 3,
		3.5, 10, 127.5, 254.5, 255, 255.5, 256, 300, 2147483646.5, 2147483647, 2147483647.4, 2147483647.5, 2147483648,
		2147483648.5, 2147483649, 4294967296, 4503599627370495.5, 4503599627370497.5, 9007199254740991,
		9007199254740993, 9223372036854774784, 9223372036854775808, 9223372036854777856, 1e10, 1e20, 1e21, 1e300,
		math.MaxFloat64, math.Inf(1), math.NaN()}
	d := dice(5)
	for range 40 {
		l = append(l, float(d.next()), float64(d.next()), float64(d.next())/(1<<32))
	}
	for _, x := range l[:len(l):len(l)] {
		l = append(l, math.Copysign(x, -1))
	}
	return l
}

// manyReals has finite reals above 0: each power of two and of ten with both neighbours, and ones of chance bits.
func manyReals() []float64 {
	var l []float64
	add := func(x float64) {
		for _, y := range []float64{math.Nextafter(x, 0), x, math.Nextafter(x, math.Inf(1))} {
			if y > 0 && !math.IsInf(y, 1) {
				l = append(l, y)
			}
		}
	}
	for e := -1074; e <= 1023; e++ {
		add(math.Ldexp(1, e))
	}
	ten := whole(10)
	for e := int64(0); e <= 308; e++ {
		n := new(big.Int).Exp(ten, whole(e), nil)
		x, _ := new(big.Rat).SetInt(n).Float64()
		add(x)
		x, _ = new(big.Rat).SetFrac(whole(1), n).Float64()
		add(x)
	}
	d := dice(17)
	for range 500 {
		add(float(d.next() & math.MaxInt64 % (0x7FF << 52)))
		add(float64(d.next()&math.MaxInt64) / float64(int64(1)<<d.below(60)))
		add(float64(d.below(1000000)) / 1000)
	}
	return l
}

// dice is a sequence of numbers that is the same in each run.
type dice uint64

func (d *dice) half() uint64 {
	*d = *d*6364136223846793005 + 1442695040888963407
	return uint64(*d) >> 32
}

func (d *dice) next() int64 {
	high := d.half()
	return int64(high<<32 | d.half())
}

func (d *dice) below(n int) int { return int(d.half() % uint64(n)) }
