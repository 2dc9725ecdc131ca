package format

import (
	"iter"

	"acheron/api"
)

// role is what a piece is, where its text alone does not say what stands around it.
type role int

const (
	plain      role = iota
	name            // a name, or iota or nil, which "(" and "[" touch, too
	literal         // a string
	prefixSign      // a unary operator
	suffixSign      // "++" or "--" behind its operand
	middle          // the ":" of a slice
	lineEnd         // a ";", a "=>" or a brace of those that end lines
	loopEnd         // the "while" of a do
)

// piece is a token of a text.
type piece struct {
	text string
	role role
}

// walker hands out the pieces of a tree, as long as they are wanted.
type walker struct {
	yield func(piece) bool
	kinds map[int]func(w *walker, n api.Node)
	depth int
	done  bool

	inLine bool // within constraints, where nothing ends a line
}

// pieces returns the pieces of a tree.
func pieces(n api.Node) iter.Seq[piece] {
	return func(yield func(piece) bool) {
		w := &walker{yield: yield, kinds: kinds()}
		w.node(n)
	}
}

// kinds returns what writes the trees of each kind that is written at all.
func kinds() map[int]func(w *walker, n api.Node) {
	return map[int]func(w *walker, n api.Node){
		api.NTName: (*walker).typeName, api.NTArray: (*walker).madeOf, api.NTList: (*walker).madeOf, api.NTChan: (*walker).madeOf,
		api.NTRef: (*walker).madeOf, api.NTTuple: (*walker).tuple, api.NParam: (*walker).parameter,

		api.NInt: (*walker).integer, api.NReal: (*walker).real, api.NString: (*walker).text, api.NName: (*walker).name,
		api.NNil: (*walker).null, api.NUnary: (*walker).unary, api.NBinary: (*walker).binary, api.NAssign: (*walker).assign,
		api.NTuple: (*walker).tuple, api.NCall: (*walker).call, api.NDot: (*walker).member, api.NArrow: (*walker).member,
		api.NIndex: (*walker).index, api.NSlice: (*walker).slice, api.NNewArr: (*walker).newArray, api.NArrOf: (*walker).elements,
		api.NListOf: (*walker).elements, api.NNewChan: (*walker).madeOf, api.NNewRef: (*walker).prefixed, api.NLoad: (*walker).load,
		api.NCast: (*walker).cast, api.NArrByte: (*walker).prefixed,

		api.NBlock: (*walker).block, api.NExpr: (*walker).withExpr, api.NVar: (*walker).variable, api.NIf: (*walker).ifElse,
		api.NWhile: (*walker).while, api.NDo: (*walker).doWhile, api.NFor: (*walker).forLoop, api.NCase: (*walker).caseOf,
		api.NAlt: (*walker).alt, api.NPick: (*walker).pick, api.NArm: (*walker).arm, api.NRange: (*walker).span,
		api.NStar: (*walker).star, api.NReturn: (*walker).withExpr, api.NSpawn: (*walker).withExpr, api.NRaise: (*walker).withExpr,
		api.NExit: (*walker).withName, api.NBreak: (*walker).withName, api.NContinue: (*walker).withName,
		api.NLabel: (*walker).label, api.NExcept: (*walker).except, api.NEmpty: (*walker).withName,

		api.NProgram: (*walker).program, api.NModule: (*walker).module, api.NCon: (*walker).constant, api.NTypeDef: (*walker).typeDef,
		api.NAdt: (*walker).adt, api.NPickArm: (*walker).pickArm, api.NFnSig: (*walker).declared, api.NTypeVar: (*walker).name,
		api.NFn: (*walker).function,
	}
}

// begin writes the words with which a type or an expression begins.
func (w *walker) begin(n api.Node) {
	switch n.Kind {
	case api.NTArray:
		w.put("array", "of")
	case api.NTList, api.NListOf:
		w.put("list", "of")
	case api.NTChan, api.NNewChan:
		w.put("chan", "of")
	case api.NTRef, api.NNewRef:
		w.put("ref")
	case api.NArrOf:
		w.put("array", "[", "]", "of")
	case api.NArrByte:
		w.put("array", "of", "byte")
	}
}

// node writes a tree. No text has one that is deeper than api.MaxNest.
func (w *walker) node(n api.Node) {
	write := w.kinds[n.Kind]
	if write == nil || w.done {
		return
	}
	if w.depth == api.MaxNest {
		w.done = true
		return
	}
	w.depth++
	write(w, n)
	w.depth--
}

// nodes writes trees one behind the other.
func (w *walker) nodes(l []api.Node) {
	for _, n := range l {
		w.node(n)
	}
}

// put writes pieces about which their texts say all.
func (w *walker) put(texts ...string) { w.putAs(plain, texts...) }

// end writes pieces that end lines.
func (w *walker) end(texts ...string) {
	if w.inLine {
		w.put(texts...)
	} else {
		w.putAs(lineEnd, texts...)
	}
}

func (w *walker) putAs(r role, texts ...string) {
	for _, text := range texts {
		if !w.done && !w.yield(piece{text, r}) {
			w.done = true
		}
	}
}

// list writes trees with a word between each two of them.
func (w *walker) list(word string, l []api.Node) {
	for i, n := range l {
		if i > 0 {
			w.put(word)
		}
		w.node(n)
	}
}

// behind writes a word and what stands behind it, if that is not missing.
func (w *walker) behind(word string, n api.Node) {
	if n.Kind != api.NNone {
		w.put(word)
		w.node(n)
	}
}

// nameIf writes a name that may be missing.
func (w *walker) nameIf(text string) {
	if text != "" {
		w.putAs(name, text)
	}
}

// at returns an element of a list, and the zero Node where it has none.
func at(l []api.Node, i int) api.Node {
	if i < 0 || i >= len(l) {
		return api.Node{}
	}
	return l[i]
}

// kid returns a kid of a tree.
func kid(n api.Node, i int) api.Node { return at(n.Kids, i) }

// last returns an element of a list, counted from its end: 1 is the last one.
func last(l []api.Node, i int) api.Node { return at(l, len(l)-i) }

// before returns a list without so many elements at its end.
func before(l []api.Node, i int) []api.Node { return l[:max(0, len(l)-i)] }

// behind returns a list without so many elements at its beginning.
func behind(l []api.Node, i int) []api.Node { return l[min(i, len(l)):] }
