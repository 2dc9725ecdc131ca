package digest

import (
	"math"

	"acheron/api"
)

const polynomial = 0xEDB88320

// Crc returns the check of bytes.
func Crc(s string) int { return int(extended(0, s)) }

// Extend returns the check of bytes of which the check of the first ones is given.
func Extend(c int, s string) (int, api.Errno) {
	if c < 0 || c > math.MaxUint32 {
		return 0, api.ErrRange
	}
	return int(extended(uint32(c), s)), api.OK
}

// extended takes the inversion at the end of a check back, and goes on.
func extended(c uint32, s string) uint32 {
	c = ^c
	for i := range len(s) {
		c ^= uint32(s[i])
		for range 8 {
			out := c & 1
			c >>= 1
			if out == 1 {
				c ^= polynomial
			}
		}
	}
	return ^c
}
