package format

import (
	"strings"

	"acheron/lex"
)

// printer writes pieces with what stands between them.
type printer struct {
	strings.Builder
	last piece // that is written
	open int   // how many braces that end lines are open
}

func (p *printer) add(next piece) {
	if next.role == lineEnd && next.text == "}" {
		p.open--
	}
	if p.Len() > 0 {
		p.WriteString(p.between(next))
	}
	p.WriteString(next.text)
	if next.role == lineEnd && next.text == "{" {
		p.open++
	}
	p.last = next
}

// between returns what stands between the last piece and the next one.
func (p *printer) between(next piece) string {
	switch {
	case endsLine(p.last, next):
		return "\n" + strings.Repeat("\t", p.open)
	case touches(p.last, next):
		return ""
	}
	return " "
}

// endsLine reports whether a line ends between two pieces.
func endsLine(left, right piece) bool {
	switch {
	case left.role != lineEnd:
		return false
	case left.text == "{":
		return right.text != "}"
	case left.text == "}":
		return !goesOn(right)
	}
	return true
}

// goesOn reports whether a piece stands in the line of the "}" before it.
func goesOn(right piece) bool {
	switch right.text {
	case ";", ",", ")", "else", "exception":
		return true
	}
	return right.role == loopEnd
}

// touches reports whether there is no space between two pieces of a line.
func touches(left, right piece) bool {
	switch right.text {
	case ",", ";", ":", ")", "]", ".", "->":
		return true
	case "(", "[":
		if belongs(left, right) {
			return true
		}
	}
	switch left.text {
	case "(", "[", ".", "->":
		return true
	case "{":
		return right.text == "}"
	}
	return right.role == suffixSign || left.role == middle || left.role == prefixSign && (right.text == "(" || !lex.IsSign(right.text))
}

// belongs reports whether a "(" or "[" touches what stands before it.
func belongs(left, right piece) bool {
	switch left.text {
	case ")", "]", "fn", "array":
		return true
	}
	return left.role == name || left.role == literal && right.text == "["
}
