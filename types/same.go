package types

import "acheron/api"

// equal reports whether two types are equal.
func (l table) equal(a, b int) bool {
	if a == b || l[a].Kind != l[b].Kind {
		return a == b
	}
	class := l.classes(a, b)
	return class[a] == class[b]
}

func (l table) assignable(to, from int) bool {
	x, y := l[to], l[from]
	switch {
	case y.Kind == api.TNil:
		return hasNil(x.Kind)
	case x.Kind == api.TRef && y.Kind == api.TRef && x.Name == "":
		return l.equal(x.Elems[0], y.Elems[0])
	}
	return l.isValue(to) && l.equal(to, from)
}

// hasNil reports whether nil is a value of types of a kind.
func hasNil(kind int) bool {
	switch kind {
	case api.TArray, api.TList, api.TChan, api.TRef, api.TModule:
		return true
	}
	return false
}

// classes returns numbers of the types that are reached from some: equal types have the same number, others do not.
// Types are told apart by their shapes, and then, as often as there is anything new, by the classes of their parts:
// only the users of what is in a new class must be looked at again, because the other ones of a class have as many
// parts as each other, in the same classes.
func (l table) classes(from ...int) []int {
	reached := l.reached(from)
	users := make([][]int, len(l))
	for _, t := range reached {
		for part := range parts(l[t]) {
			users[part] = append(users[part], t)
		}
	}
	p := &partition{make([]int, len(l)), [][]int{reached}}
	moved := p.split(reached, l.shape)
	for len(moved) > 0 {
		var changed set
		for _, part := range moved {
			changed.add(users[part]...)
		}
		moved = p.split(changed.list, func(t int) string { return p.ofParts(l[t]) })
	}
	return p.class
}

// reached returns types, and all to which steps to parts lead from them.
func (l table) reached(from []int) []int {
	var s set
	s.add(from...)
	for i := 0; i < len(s.list); i++ {
		for part := range parts(l[s.list[i]]) {
			s.add(part)
		}
	}
	return s.list
}

// set has types, each one once.
type set struct {
	list []int
	has  map[int]bool
}

func (s *set) add(types ...int) {
	if s.has == nil {
		s.has = map[int]bool{}
	}
	for _, t := range types {
		if !s.has[t] {
			s.has[t] = true
			s.list = append(s.list, t)
		}
	}
}
