package types

import (
	"iter"
	"slices"
	"strings"

	"acheron/api"
)

// table is a list of types, which are its indices.
type table []api.Type

// parts returns the types of which a type is made, in their order.
func parts(x api.Type) iter.Seq[int] {
	return func(yield func(int) bool) {
		for _, t := range x.Elems {
			if !yield(t) {
				return
			}
		}
		for f := range allFields(x) {
			if !yield(f.Type) {
				return
			}
		}
	}
}

// allFields returns the fields of a type, and those of its arms.
func allFields(x api.Type) iter.Seq[api.Field] {
	return func(yield func(api.Field) bool) {
		for _, f := range x.Fields {
			if !yield(f) {
				return
			}
		}
		for _, arm := range x.Arms {
			for _, f := range arm.Fields {
				if !yield(f) {
					return
				}
			}
		}
	}
}

// has reports whether a number is a type of the table.
func (l table) has(t int) bool { return t >= 0 && t < len(l) }

// inside returns ErrRange if one of the types is none of the table.
func (l table) inside(types ...int) api.Errno {
	for _, t := range types {
		if !l.has(t) {
			return api.ErrRange
		}
	}
	return api.OK
}

// isValue reports whether there are variables of a type.
func (l table) isValue(t int) bool {
	switch l[t].Kind {
	case api.TVoid, api.TFn, api.TNil:
		return false
	case api.TAdt:
		return len(l[t].Arms) == 0
	}
	return true
}

// hasArm reports whether a type has an arm; each one has that without a name.
func hasArm(x api.Type, name string) bool {
	return name == "" || slices.ContainsFunc(x.Arms, func(arm api.PArm) bool { return arm.Name == name })
}

// fieldsOf returns the fields of an adt with an arm.
func fieldsOf(x api.Type, name string) []api.Field {
	for _, arm := range x.Arms {
		if arm.Name == name {
			return slices.Concat(x.Fields, arm.Fields)
		}
	}
	return x.Fields
}

// joined returns a table with the types of two tables.
func joined(l, m []api.Type) table {
	all := slices.Clone(l)
	for _, x := range m {
		all = append(all, moved(x, len(l)))
	}
	return all
}

// moved returns a type whose parts have moved in their table.
func moved(x api.Type, by int) api.Type {
	x = cloned(x)
	for i := range x.Elems {
		x.Elems[i] += by
	}
	moveFields(x.Fields, by)
	for _, arm := range x.Arms {
		moveFields(arm.Fields, by)
	}
	return x
}

func moveFields(l []api.Field, by int) {
	for i := range l {
		l[i].Type += by
	}
}

// cloned returns a type that shares no memory with the given one.
func cloned(x api.Type) api.Type {
	x.Elems, x.Fields, x.Arms = slices.Clone(x.Elems), slices.Clone(x.Fields), slices.Clone(x.Arms)
	for i, arm := range x.Arms {
		x.Arms[i].Fields = slices.Clone(arm.Fields)
	}
	return x
}

// canonical returns a table with the members of modules in the order of their names.
func canonical(l []api.Type) table {
	l = slices.Clone(l)
	for i, x := range l {
		if x.Kind == api.TModule {
			l[i].Fields = slices.SortedFunc(slices.Values(x.Fields), func(a, b api.Field) int { return strings.Compare(a.Name, b.Name) })
		}
	}
	return l
}
