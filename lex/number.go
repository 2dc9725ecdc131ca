package lex

import (
	"math"
	"strconv"
	"strings"

	"acheron/api"
)

const (
	maxNumber = 100 // bytes of a number
	minBase   = 2
	maxBase   = 36
)

const decimals = "0123456789"

// numberLength returns the length of the number with whose first digit a text begins.
func numberLength(text string) int {
	n := 1
	for n < len(text) && goesOn(text, n) {
		n++
	}
	return n
}

// goesOn reports whether the byte at an index belongs to a number to which all bytes before it belong.
func goesOn(text string, at int) bool {
	if isNamePart(rune(text[at])) {
		return true
	}
	if at+1 == len(text) || !isDigit(rune(text[at+1])) {
		return false
	}
	switch text[at] {
	case '.':
		return !strings.Contains(text[:at], ".")
	case '+', '-':
		return endsInExponent(text[:at])
	}
	return false
}

// endsInExponent reports whether the last byte of a number begins an exponent.
func endsInExponent(number string) bool {
	last := len(number) - 1
	return (number[last] == 'e' || number[last] == 'E') && strings.Trim(number[:last], decimals+".") == ""
}

// numberToken returns the token of a number, all of whose bytes are given.
func numberToken(number string) (api.Token, api.Errno) {
	if len(number) > maxNumber {
		return api.Token{}, api.ErrLimit
	}
	behind := strings.TrimLeft(number, decimals)
	first := number[:len(number)-len(behind)]
	switch {
	case behind == "":
		return integerToken(first, 10)
	case behind[0] == 'r':
		base, _ := strconv.Atoi(first) // of one that does not fit the greatest int, which is no base, either
		return integerToken(behind[1:], base)
	case isRealTail(behind):
		return realToken(number)
	}
	return api.Token{}, api.ErrSyntax
}

// integerToken returns the token of an integer. That something is no digit of any base is found before a wrong base.
func integerToken(digits string, base int) (api.Token, api.Errno) {
	greatest := 0
	for _, c := range digits {
		greatest = max(greatest, digitValue(c))
	}
	switch {
	case digits == "" || greatest >= maxBase:
		return api.Token{}, api.ErrSyntax
	case base < minBase || base > maxBase:
		return api.Token{}, api.ErrRange
	case greatest >= base:
		return api.Token{}, api.ErrSyntax
	}
	n, err := strconv.ParseInt(digits, base, 64)
	if err != nil {
		return api.Token{}, api.ErrRange
	}
	return api.Token{Kind: api.TokInt, Num: n}, api.OK
}

// digitValue returns the value of a digit, and maxBase of what is none.
func digitValue(c rune) int {
	switch {
	case isDigit(c):
		return int(c - '0')
	case c >= 'a' && c <= 'z':
		return int(c-'a') + 10
	case c >= 'A' && c <= 'Z':
		return int(c-'A') + 10
	}
	return maxBase
}

// isRealTail reports whether a real number may have this behind its first digits. A digit follows each point and each
// sign of a number.
func isRealTail(s string) bool {
	if s[0] == '.' {
		s = strings.TrimLeft(s[1:], decimals)
	}
	if s == "" {
		return true
	}
	if s[0] != 'e' && s[0] != 'E' {
		return false
	}
	power := strings.TrimLeft(s[1:], "+-")
	return power != "" && strings.Trim(power, decimals) == ""
}

func realToken(number string) (api.Token, api.Errno) {
	x, err := strconv.ParseFloat(number, 64)
	if err != nil {
		return api.Token{}, api.ErrRange
	}
	return api.Token{Kind: api.TokReal, Num: int64(math.Float64bits(x))}, api.OK
}
