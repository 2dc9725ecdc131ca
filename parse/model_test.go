package parse_test

import (
	"slices"
	"strings"
	"testing"

	"acheron/api"
	"acheron/parse"
)

// chapter is the grammar of the chapter, with its operators by levels, and with arms that say what begins behind the
// first one: each of them only where its labels, and "=>", follow, and a statement only where they do not.
const chapter = `
program = "implement" name ";" {decl} End
decl = name ":" "module" "{" {member} "}" ";" | common | names ":" type ["=" expr] ";" | name ":=" expr ";"
	| name ["." name] ["[" names "]"] signature [constraints] block
common = names ":" "con" expr ";" | name ":" "type" type ";"
	| name ":" "adt" "{" {field | method} ["pick" "{" {parm} "}"] "}" ";"
member = common | name ":" "fn" ["[" names "]"] signature [constraints] ";"
field = names ":" type ";"
method = name ":" "fn" signature ";"
parm = name "=>" {field}
names = name {"," name}
signature = "(" [params {"," params}] ")" [":" type]
params = names ":" ["self"] type
constraints = "for" "{" {name "=>" {method}} "}"
type = "byte" | "int" | "big" | "real" | "string" | tname | "array" "of" type | "list" "of" type | "chan" "of" type
	| "ref" tname | "(" type "," type {"," type} ")"
tname = name ["->" name] ["." name]
stmt = ";" | blocks | "if" "(" expr ")" stmt ["else" stmt] | loop | name ":" (loop | blocks) | "return" [expr] ";"
	| "spawn" expr ";" | "raise" expr ";" | "exit" ";" | "break" [name] ";" | "continue" [name] ";"
	| names ":" "con" expr ";" | names ":" type ["=" expr] ";" | expr ";"
block = "{" {stmt} "}"
blocks = block ["exception" [name] exarms]
loop = "while" "(" [expr] ")" stmt | "do" stmt "while" "(" expr ")" ";" | "for" "(" [expr] ";" [expr] ";" [expr] ")" stmt
	| "case" expr casearms | "alt" altarms | "pick" name ":=" expr pickarms
casearms = "{" [casefirst {casenext}] "}"
casefirst = caselabels "=>" {casestmt}
casenext = casefirst
casestmt = stmt
casebegin = caselabels "=>"
caselabels = caselabel {"or" caselabel}
caselabel = "*" | expr ["to" expr]
altarms = "{" [altfirst {altnext}] "}"
altfirst = altlabels "=>" {altstmt}
altnext = altfirst
altstmt = stmt
altbegin = altlabels "=>"
altlabels = "*" | expr
pickarms = "{" [pickfirst {picknext}] "}"
pickfirst = picklabels "=>" {pickstmt}
picknext = pickfirst
pickstmt = stmt
pickbegin = picklabels "=>"
picklabels = picklabel {"or" picklabel}
picklabel = "*" | name
exarms = "{" [exfirst {exnext}] "}"
exfirst = exlabels "=>" {exstmt}
exnext = exfirst
exstmt = stmt
exbegin = exlabels "=>"
exlabels = exlabel {"or" exlabel}
exlabel = "*" | text
single = expr End
expr = e2 [assignop expr]
assignop = "=" | ":=" | "<-=" | "+=" | "-=" | "*=" | "/=" | "%=" | "&=" | "|=" | "^=" | "<<=" | ">>="
e2 = {e3 "||"} e3
e3 = {e4 "&&"} e4
e4 = e5 ["::" e4]
e5 = {e6 "|"} e6
e6 = {e7 "^"} e7
e7 = {e8 "&"} e8
e8 = {e9 ("==" | "!=")} e9
e9 = {e10 ("<" | "<=" | ">" | ">=")} e10
e10 = {e11 ("<<" | ">>")} e11
e11 = {e12 ("+" | "-")} e12
e12 = {unary ("*" | "/" | "%")} unary
unary = ("+" | "-" | "!" | "~" | "++" | "--" | "<-" | "hd" | "tl" | "len" | "tagof") unary
	| ("byte" | "int" | "big" | "real" | "string") unary | "array" "of" "byte" unary | "load" name unary | "ref" unary
	| "array" "[" expr "]" "of" type | "chan" "of" type | postfix
postfix = primary {"(" [expr {"," expr}] ")" | "." name | "->" name | "[" expr "]" | "[" [expr] ":" [expr] "]" | "++" | "--"}
primary = number | text | name | "iota" | "nil" | "(" expr ")" | "(" expr "," expr {"," expr} ")"
	| "array" "[" "]" "of" "{" [expr {"," expr}] "}" | "list" "of" "{" [expr {"," expr}] "}"
`

// grammar has the productions of each name. A word that is a name of none, or stands in quotes, is a token.
type grammar struct {
	rules [][]string // the name, then its words
	of    map[string][]int
	empty map[string]bool
	parts []string // of the line that is read
}

func newGrammar(text string) *grammar {
	g := &grammar{of: map[string][]int{}, empty: map[string]bool{}}
	for _, line := range strings.Split(strings.ReplaceAll(strings.TrimSpace(text), "\n\t", " "), "\n") {
		name, rest, _ := strings.Cut(line, " = ")
		g.parts = split(rest)
		g.choice(name)
	}
	for changed := true; changed; {
		changed = false
		for _, r := range g.rules {
			if !g.empty[r[0]] && !slices.ContainsFunc(r[1:], func(s string) bool { return !g.empty[s] }) {
				g.empty[r[0]], changed = true, true
			}
		}
	}
	return g
}

// split returns the words of a line: strings in quotes, names, and signs outside of quotes.
func split(line string) []string {
	var l []string
	for line = strings.TrimSpace(line); line != ""; line = strings.TrimSpace(line) {
		n := 1
		if line[0] == '"' {
			n = 2 + strings.Index(line[1:], `"`)
		} else if !strings.ContainsRune("[]{}()|", rune(line[0])) {
			n = strings.IndexAny(line+" ", " []{}()|")
		}
		l = append(l, line[:n])
		line = line[n:]
	}
	return l
}

// choice reads alternatives, up to what closes them, as rules of a name.
func (g *grammar) choice(name string) {
	rule := []string{name}
	add := func() {
		g.of[name] = append(g.of[name], len(g.rules))
		g.rules = append(g.rules, rule)
		rule = []string{name}
	}
	for len(g.parts) > 0 {
		word := g.parts[0]
		g.parts = g.parts[1:]
		switch word {
		case "|":
			add()
			continue
		case "]", "}", ")":
			add()
			return
		case "[", "{", "(":
			inner := name + "_" + string(rune('A'+len(g.rules))) + "_" + string(rune('A'+len(g.parts)))
			g.choice(inner)
			if word == "{" {
				many := inner + "*"
				g.of[many] = []int{len(g.rules), len(g.rules) + 1}
				g.rules = append(g.rules, []string{many}, []string{many, many, inner})
				inner = many
			}
			if word == "[" {
				g.of[inner] = append(g.of[inner], len(g.rules))
				g.rules = append(g.rules, []string{inner})
			}
			word = inner
		}
		rule = append(rule, word)
	}
	add()
}

// item is a rule, of which some words are read, the first of them at an index of the tokens.
type item struct{ rule, read, from int }

// set has the items at an index, and those of them that wait for a word.
type set struct {
	has     map[item]bool
	list    []item
	waiting map[string][]item
}

// model finds by Earley's method where a list of tokens is no beginning of what the grammar has.
type model struct {
	*grammar
	tokens []string
	begins map[string]bool // whether the labels of a kind, and "=>", begin at an index
}

// permitted reports whether a name may begin at an index.
func (m *model) permitted(name string, at int) bool {
	for _, kind := range []string{"case", "alt", "pick", "ex"} {
		if name != kind+"next" && name != kind+"stmt" {
			continue
		}
		key := kind + string(rune(at))
		if _, known := m.begins[key]; !known {
			_, m.begins[key] = m.run(kind+"begin", at)
		}
		return m.begins[key] == (name == kind+"next")
	}
	return true
}

// run reads tokens from an index on. It returns the index of the first one that does not fit, or the number of tokens,
// and whether some of them are all of what a name has.
func (m *model) run(name string, from int) (int, bool) {
	whole := false
	var sets []*set
	next := []item{}
	for _, r := range m.of[name] {
		next = append(next, item{r, 0, 0})
	}
	for i := from; ; i++ {
		s := &set{has: map[item]bool{}, waiting: map[string][]item{}}
		sets = append(sets, s)
		for _, x := range next {
			s.add(x)
		}
		next = nil
		for k := 0; k < len(s.list); k++ {
			x := s.list[k]
			r := m.rules[x.rule]
			if x.read == len(r)-1 {
				whole = whole || r[0] == name && x.from == 0
				for _, y := range sets[x.from].waiting[r[0]] {
					s.add(item{y.rule, y.read + 1, y.from})
				}
				continue
			}
			word := r[x.read+1]
			if rules, ok := m.of[word]; ok {
				if !m.permitted(word, i) {
					continue
				}
				s.waiting[word] = append(s.waiting[word], x)
				for _, rule := range rules {
					s.add(item{rule, 0, i - from})
				}
				if m.empty[word] {
					s.add(item{x.rule, x.read + 1, x.from})
				}
			} else if i < len(m.tokens) && m.tokens[i] == word {
				next = append(next, item{x.rule, x.read + 1, x.from})
			}
		}
		if len(next) == 0 {
			return i, whole
		}
	}
}

func (s *set) add(x item) {
	if !s.has[x] {
		s.has[x] = true
		s.list = append(s.list, x)
	}
}

// class returns what the grammar calls a token.
func class(t api.Token) string {
	switch t.Kind {
	case api.TokName:
		return "name"
	case api.TokInt, api.TokChar, api.TokReal:
		return "number"
	case api.TokString:
		return "text"
	case api.TokEnd:
		return "End"
	}
	return `"` + t.Text + `"`
}

// firstWrong returns the index of the first token that the grammar does not permit, or the number of tokens.
func (g *grammar) firstWrong(name string, l []api.Token) int {
	m := &model{grammar: g, begins: map[string]bool{}}
	for _, t := range l {
		m.tokens = append(m.tokens, class(t))
	}
	at, _ := m.run(name, 0)
	return at
}

// vocabulary has tokens of all classes.
func vocabulary() []api.Token {
	var l []api.Token
	for _, s := range strings.Fields("adt alt array big break byte case chan con continue do else exception exit fn for hd if implement" +
		" int iota len list load module nil of or pick raise real ref return self spawn string tagof tl to type while") {
		l = append(l, api.Token{Kind: api.TokKey, Text: s})
	}
	for _, s := range strings.Fields("+ - * / & | ^ ~ ! = < . , ; : ( ) [ ] { } == >> && || ++ -- += := <- -> => ::" +
		" <-= : ; , => ( ) [ ] { } . => => : ;") {
		l = append(l, api.Token{Kind: api.TokSign, Text: s})
	}
	for range 8 {
		l = append(l, api.Token{Kind: api.TokName, Text: "a"}, api.Token{Kind: api.TokInt}, api.Token{Kind: api.TokString, Text: "s"})
	}
	return l
}

// mutate changes some of the tokens.
func (g *gen) mutate() {
	all := vocabulary()
	for range 1 + g.below(3) {
		i := g.below(len(g.l))
		switch g.below(6) {
		case 0:
			g.l = slices.Delete(g.l, i, i+1)
		case 1:
			g.l[i] = oneOf(&g.dice, all...)
		case 2:
			g.l = slices.Insert(g.l, i, oneOf(&g.dice, all...))
		case 3:
			g.l = slices.Insert(g.l, i, g.l[g.below(len(g.l))])
		case 4:
			j := max(0, i-1-g.below(3))
			g.l[i], g.l[j] = g.l[j], g.l[i]
		case 5:
			if g.chance(4) {
				g.l = slices.Delete(g.l, i, len(g.l))
			} else {
				j := min(len(g.l), i+g.below(4))
				g.l = slices.Delete(g.l, i, j)
			}
		}
		if len(g.l) == 0 {
			return
		}
	}
}

// P6.1: of tokens that are almost a program's, or almost an expression's, the first one that is not permitted is found.
func TestModel(t *testing.T) {
	g := newGrammar(chapter)
	wrong, right := 0, 0
	for seed := range 4000 {
		x := &gen{dice: dice(seed)}
		start, read := "program", parse.Program
		if seed%4 == 0 {
			start, read = "single", parse.Expr
			x.expr(1, 1+seed%4)
		} else {
			x.program(1 + seed%3)
		}
		if len(x.l) > 150 {
			continue
		}
		x.mutate()
		x.l = append(x.l, api.Token{Kind: api.TokEnd})
		for i := range x.l {
			x.l[i].At = i
		}
		tree, f := read(x.l)
		want := g.firstWrong(start, x.l)
		if modelled(x.l, want, tree, f) {
			wrong += min(1, int(f.Code))
			right += 1 - min(1, int(f.Code))
			continue
		}
		t.Errorf("%s: %v, the model finds %d in it", words(x.l), f, want)
	}
	if wrong < 2000 || right < 200 {
		t.Errorf("%d wrong texts, %d right ones: too few", wrong, right)
	}
}

// modelled reports whether a result is one where the first token that the grammar does not permit is known. Before it a
// "ref" or a name in constraints may be wrong.
func modelled(l []api.Token, want int, tree api.Node, f api.Fault) bool {
	switch {
	case f.Code == api.OK:
		wrongRef := func(n api.Node) bool { return n.Kind == api.NNewRef && n.Kids[0].Kind != api.NCall }
		return want == len(l) && !slices.ContainsFunc(all(tree), wrongRef)
	case f.Code == api.ErrName:
		return f.At < want && l[f.At].Kind == api.TokName
	case f.Code == api.ErrSyntax && f.At < want:
		return l[f.At].Kind == api.TokKey && l[f.At].Text == "ref"
	}
	return f == api.Fault{At: want, Code: api.ErrSyntax}
}
