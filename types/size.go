package types

import (
	"slices"

	"acheron/api"
)

// measure counts slots, those of each type once.
type measure struct {
	table
	known []int // 0, where nothing is known
}

func newMeasure(l []api.Type) *measure { return &measure{l, make([]int, len(l))} }

// size returns the number of slots of a value, of an adt with arms that of the record without an arm. More than
// api.MaxSlots are one more, however many there are.
func (m *measure) size(t int) int {
	n := m.known[t]
	if n > 0 {
		return n
	}
	switch x := m.table[t]; x.Kind {
	case api.TVoid, api.TFn, api.TNil:
	case api.TTuple:
		for _, part := range x.Elems {
			n = m.more(n, part)
		}
	case api.TAdt:
		n = m.sum(indexSlots(x), x.Fields)
	default:
		n = 1
	}
	m.known[t] = n
	return n
}

// more returns a number of slots and those of one more type.
func (m *measure) more(n, t int) int { return min(n+m.size(t), api.MaxSlots+1) }

// sum returns a number of slots and those of fields.
func (m *measure) sum(n int, l []api.Field) int {
	for _, f := range l {
		n = m.more(n, f.Type)
	}
	return n
}

// indexSlots returns the number of slots for the index of the arm.
func indexSlots(x api.Type) int {
	if len(x.Arms) > 0 {
		return 1
	}
	return 0
}

// place returns the place of a field of an adt with an arm, or of a part of a tuple.
func (m *measure) place(x api.Type, arm string, k int) (Place, api.Errno) {
	members := slices.Collect(parts(api.Type{Elems: x.Elems, Fields: fieldsOf(x, arm)}))
	if k < 0 || k >= len(members) {
		return Place{}, api.ErrRange
	}
	at := indexSlots(x)
	for _, t := range members[:k] {
		at = m.more(at, t)
	}
	return Place{at, m.size(members[k]), members[k]}, api.OK
}
