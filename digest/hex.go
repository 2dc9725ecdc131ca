package digest

import (
	"strings"

	"acheron/api"
)

const digits = "0123456789abcdef"

// Hex returns two hexadecimal digits for each byte.
func Hex(s string) string {
	b := make([]byte, 0, 2*len(s))
	for i := range len(s) {
		b = append(b, digits[s[i]>>4], digits[s[i]&15])
	}
	return string(b)
}

// Unhex returns the bytes of hexadecimal digits.
func Unhex(s string) (string, api.Errno) {
	if len(s)%2 != 0 {
		return "", api.ErrShape
	}
	b := make([]byte, len(s)/2)
	for i := range len(s) {
		n := strings.IndexByte(digits, s[i])
		if n < 0 {
			return "", api.ErrSyntax
		}
		b[i/2] = b[i/2]<<4 | byte(n)
	}
	return string(b), api.OK
}
