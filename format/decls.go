package format

import (
	"slices"

	"acheron/api"
)

func (w *walker) program(n api.Node) {
	w.put("implement")
	w.name(n)
	w.end(";")
	w.nodes(n.Kids)
}

func (w *walker) module(n api.Node) {
	w.name(n)
	w.put(":", "module")
	w.braces(n.Kids)
	w.end(";")
}

func (w *walker) constant(n api.Node) {
	w.list(",", before(n.Kids, 1))
	w.put(":", "con")
	w.node(last(n.Kids, 1))
	w.end(";")
}

// variable writes names with their type, or without one a name with the value from which it has its type.
func (w *walker) variable(n api.Node) {
	kind, value := last(n.Kids, 2), last(n.Kids, 1)
	w.list(",", before(n.Kids, 2))
	if kind.Kind == api.NNone {
		w.behind(":=", value)
	} else {
		w.put(":")
		w.node(kind)
		w.behind("=", value)
	}
	w.end(";")
}

func (w *walker) typeDef(n api.Node) {
	w.name(n)
	w.put(":", "type")
	w.node(kid(n, 0))
	w.end(";")
}

func (w *walker) adt(n api.Node) {
	w.name(n)
	w.put(":", "adt")
	w.end("{")
	arms := slices.IndexFunc(n.Kids, func(k api.Node) bool { return k.Kind == api.NPickArm })
	if arms < 0 {
		w.nodes(n.Kids)
	} else {
		w.nodes(n.Kids[:arms])
		w.put("pick")
		w.braces(n.Kids[arms:])
	}
	w.end("}", ";")
}

func (w *walker) pickArm(n api.Node) {
	w.name(n)
	w.end("=>")
	w.nodes(n.Kids)
}

// declared writes a function that is a member, or a method in constraints.
func (w *walker) declared(n api.Node) {
	w.name(n)
	w.put(":", "fn")
	w.signature(n)
	w.end(";")
}

func (w *walker) function(n api.Node) {
	w.name(n)
	w.signature(kid(n, 0))
	w.node(kid(n, 1))
}

// signature writes what stands behind the name of a function.
func (w *walker) signature(n api.Node) {
	variables := 0
	for variables < len(n.Kids) && n.Kids[variables].Kind == api.NTypeVar {
		variables++
	}
	if variables > 0 {
		w.put("[")
		w.list(",", n.Kids[:variables])
		w.put("]")
	}
	params := n.Kids[variables:]
	w.put("(")
	w.list(",", before(params, 1))
	w.put(")")
	w.behind(":", last(params, 1))
	w.constraints(n.Kids[:variables])
}

// constraints writes the methods of type variables, if any of them has some.
func (w *walker) constraints(variables []api.Node) {
	bound := slices.DeleteFunc(slices.Clone(variables), func(v api.Node) bool { return len(v.Kids) == 0 })
	if len(bound) == 0 {
		return
	}
	outer := w.inLine
	w.inLine = true
	w.put("for", "{")
	for _, v := range bound {
		w.name(v)
		w.put("=>")
		w.nodes(v.Kids)
	}
	w.put("}")
	w.inLine = outer
}

func (w *walker) parameter(n api.Node) {
	w.name(n)
	w.put(":")
	if n.Num == 1 {
		w.put("self")
	}
	w.node(kid(n, 0))
}

// typeName writes the name of a type. The parts of one that is declared touch, so they are one piece.
func (w *walker) typeName(n api.Node) { w.put(n.Text) }

// madeOf writes a type behind words.
func (w *walker) madeOf(n api.Node) {
	w.begin(n)
	w.node(kid(n, 0))
}
