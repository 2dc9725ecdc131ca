package text

import (
	"strings"
	"unicode/utf8"

	"acheron/api"
)

// Place returns the line and the column of a byte.
func Place(s string, at int) (int, int, api.Errno) {
	if at < 0 || at > len(s) {
		return 0, 0, api.ErrRange
	}
	before := s[:at]
	line := before[strings.LastIndexByte(before, '\n')+1:]
	return 1 + strings.Count(before, "\n"), 1 + utf8.RuneCountInString(line), api.OK
}
