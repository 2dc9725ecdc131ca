package format_test

import (
	"strings"
	"testing"

	"acheron/api"
	"acheron/lex"
)

// model says from the tokens of a text what stands between them. What tokens alone do not tell, it has from the tree.
type model struct {
	l      []api.Token
	prefix map[int]bool // where signs are that stand before their operand
	ofDo   map[int]bool // where each "while" of a do is
	open   []api.Token  // what is open: "(", "[", "{"; the braces of elements as "e", those of constraints as "c"
	tabs   int
}

func newModel(tree api.Node, l []api.Token) *model {
	m := &model{l: l, prefix: map[int]bool{}, ofDo: map[int]bool{}}
	for _, n := range all(&tree) {
		switch {
		case n.Kind == api.NUnary && n.Text != "x++" && n.Text != "x--":
			m.prefix[n.At] = true
		case n.Kind == api.NDo:
			last := 0
			for _, token := range l {
				if token.Kind == api.TokKey && token.Text == "while" && token.At < n.Kids[1].At {
					last = token.At
				}
			}
			m.ofDo[last] = true
		}
	}
	return m
}

func (m *model) within(what string) bool {
	for _, token := range m.open {
		if token.Text == what {
			return true
		}
	}
	return false
}

func (m *model) innermost() string {
	if len(m.open) == 0 {
		return ""
	}
	return m.open[len(m.open)-1].Text
}

// word returns a keyword or a sign.
func (m *model) word(i int) string {
	if i < 0 || m.l[i].Kind != api.TokKey && m.l[i].Kind != api.TokSign {
		return ""
	}
	return m.l[i].Text
}

// gap returns what stands behind a token.
func (m *model) gap(i int) string {
	this, next := m.word(i), m.word(i+1)
	ends := this == ";" && !m.within("(") && !m.within("c") || this == "=>" && !m.within("c")
	switch this {
	case "(", "[":
		m.open = append(m.open, m.l[i])
	case "{":
		kind := map[string]string{"of": "e", "for": "c"}[m.word(i-1)]
		if kind == "" {
			kind = "{"
			ends = next != "}"
			m.tabs++
		}
		m.open = append(m.open, api.Token{Text: kind})
	case ")", "]", "}":
		if m.innermost() == "{" {
			m.tabs--
			ends = !isOneOf(next, ";", ",", ")", "else", "exception") && !m.ofDo[m.l[i+1].At]
		}
		m.open = m.open[:len(m.open)-1]
	}
	if ends {
		tabs := m.tabs
		if next == "}" {
			tabs--
		}
		return "\n" + strings.Repeat("\t", tabs)
	}
	if m.touch(i, this, next) {
		return ""
	}
	return " "
}

func (m *model) touch(i int, this, next string) bool {
	left, right := m.l[i], m.l[i+1]
	switch {
	case isOneOf(next, ",", ";", ":", ")", "]", ".", "->"):
		return true
	case isOneOf(next, "++", "--") && !m.prefix[right.At]:
		return true
	case isOneOf(next, "(", "[") && (left.Kind == api.TokName || isOneOf(this, ")", "]", "fn", "array", "iota", "nil")):
		return true
	case next == "[" && left.Kind == api.TokString:
		return true
	case isOneOf(this, "(", "[", ".", "->"), this == ":" && m.innermost() == "[", this == "{" && next == "}":
		return true
	}
	return left.Kind == api.TokSign && m.prefix[left.At] && (right.Kind != api.TokSign || next == "(")
}

func isOneOf(s string, l ...string) bool {
	for _, x := range l {
		if s == x {
			return true
		}
	}
	return false
}

// P7.1: spaces and lines are those that the tokens ask for.
func TestModel(t *testing.T) {
	samples(t, 4000, func(seed int, x sample) {
		l, _ := lex.Tokens(x.text)
		tree, _ := x.read(x.text)
		m := newModel(tree, l)
		for i, token := range l[:len(l)-2] {
			between := x.text[token.At:l[i+1].At]
			got := between[len(strings.TrimRight(between, " \t\n")):]
			if want := m.gap(i); got != want {
				t.Fatalf("%s\nbehind the token %q at %d stands %q, want %q", x.text, token.Text, token.At, got, want)
			}
		}
	})
}

// count returns how often a keyword or a sign is among tokens.
func count(l []api.Token, word string) int {
	n := 0
	for _, token := range l {
		if token.Text == word && token.Kind != api.TokString && token.Kind != api.TokName {
			n++
		}
	}
	return n
}

// P7.1: the pieces are as few as possible: constraints, pick and exception stand only where the tree has something there.
func TestFewPieces(t *testing.T) {
	samples(t, 2000, func(seed int, x sample) {
		want := map[string]int{}
		for _, n := range all(&x.tree) {
			switch n.Kind {
			case api.NExcept:
				want["exception"]++
			case api.NPick:
				want["pick"]++
			case api.NParam:
				want["self"] += int(n.Num)
			case api.NFor:
				want["for"]++
			}
			bound, arms := 0, 0
			for _, k := range n.Kids {
				if k.Kind == api.NTypeVar && len(k.Kids) > 0 {
					bound = 1
				}
				if k.Kind == api.NPickArm {
					arms = 1
				}
			}
			want["for"] += bound
			want["pick"] += arms
		}
		l, _ := lex.Tokens(x.text)
		for _, word := range []string{"exception", "pick", "self", "for"} {
			if got := count(l, word); got != want[word] {
				t.Errorf("%s has %d times %s, want %d", x.text, got, word, want[word])
			}
		}
	})
}
