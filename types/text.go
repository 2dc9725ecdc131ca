package types

import (
	"strconv"
	"strings"

	"acheron/api"
)

// writer writes canonical texts.
type writer struct {
	strings.Builder
	table
	part func(t int) // writes a part
}

// shape returns the canonical text of a type with the same mark for each part. Without marks a function with one
// parameter would have the shape of a function without parameters.
func (l table) shape(t int) string {
	w := &writer{table: l}
	w.part = func(int) { w.WriteString("?") }
	w.write(t)
	return w.String()
}

// text returns the canonical text of a type.
func (l table) text(t int) string {
	class := l.classes(t)
	numbers := map[int]int{} // of the classes whose texts have begun
	w := &writer{table: l}
	w.part = func(t int) {
		if !isNumbered(l[t].Kind) {
			w.write(t)
			return
		}
		n, again := numbers[class[t]]
		if again {
			w.WriteString("#" + strconv.Itoa(n))
			return
		}
		numbers[class[t]] = len(numbers)
		w.write(t)
	}
	w.part(t)
	return w.String()
}

// isNumbered reports whether types of a kind have a number in a text.
func isNumbered(kind int) bool {
	switch kind {
	case api.TArray, api.TList, api.TChan, api.TRef, api.TTuple, api.TFn, api.TAdt, api.TModule:
		return true
	}
	return false
}

// write writes a type.
func (w *writer) write(t int) {
	x := w.table[t]
	w.WriteString(word(x.Kind))
	switch x.Kind {
	case api.TArray, api.TList, api.TChan, api.TTuple:
		w.list(x.Elems)
	case api.TRef:
		if x.Name != "" {
			w.WriteString("." + x.Name)
		}
		w.list(x.Elems)
	case api.TFn:
		last := len(x.Elems) - 1
		w.list(x.Elems[:last])
		w.WriteString(":")
		w.part(x.Elems[last])
	case api.TAdt, api.TModule:
		w.WriteString("{")
		w.fields(x.Fields)
		for _, arm := range x.Arms {
			w.WriteString("|" + arm.Name + "{")
			w.fields(arm.Fields)
			w.WriteString("}")
		}
		w.WriteString("}")
	}
}

func (w *writer) list(l []int) {
	w.WriteString("(")
	for i, t := range l {
		if i > 0 {
			w.WriteString(",")
		}
		w.part(t)
	}
	w.WriteString(")")
}

func (w *writer) fields(l []api.Field) {
	for i, f := range l {
		if i > 0 {
			w.WriteString(";")
		}
		w.WriteString(f.Name + ":")
		w.part(f.Type)
	}
}

// word returns the word with which the texts of types of a kind begin; those of tuples begin with none.
func word(kind int) string {
	switch kind {
	case api.TVoid:
		return "void"
	case api.TByte:
		return "byte"
	case api.TInt:
		return "int"
	case api.TBig:
		return "big"
	case api.TReal:
		return "real"
	case api.TString:
		return "string"
	case api.TNil:
		return "nil"
	case api.TArray:
		return "array"
	case api.TList:
		return "list"
	case api.TChan:
		return "chan"
	case api.TRef:
		return "ref"
	case api.TFn:
		return "fn"
	case api.TAdt:
		return "adt"
	case api.TModule:
		return "module"
	}
	return ""
}
