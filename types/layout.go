package types

import (
	"maps"
	"slices"

	"acheron/api"
)

// Layout gives descriptors to types.
type Layout struct {
	table
	class   []int // of each type: the same one for equal types
	descs   []api.Desc
	given   map[owner]int // numbers of descriptors
	modules []int
	full    bool // there would be too many descriptors
}

// owner is what has a descriptor: an element of a class, or a record of one with an arm.
type owner struct {
	class  int
	arm    string
	record bool
}

// NewLayout returns a layout for a table.
func NewLayout(l []api.Type) (*Layout, api.Errno) {
	if e := Check(l); e != api.OK {
		return nil, e
	}
	x := &Layout{descs: make([]api.Desc, 1), given: map[owner]int{}}
	var all []int
	for t, kind := range l {
		x.table = append(x.table, cloned(kind))
		all = append(all, t)
	}
	x.class = canonical(l).classes(all...)
	return x, api.OK
}

// Slots returns the slots of a value.
func (x *Layout) Slots(t int) ([]api.Slot, api.Errno) {
	if e := x.wrongValue(t); e != api.OK {
		return nil, e
	}
	return whole(x, func() []api.Slot { return x.value(t) })
}

// Elem returns the descriptor of an element.
func (x *Layout) Elem(t int) (int, api.Errno) {
	if e := x.wrongValue(t); e != api.OK {
		return 0, e
	}
	return whole(x, func() int { return x.elem(t) })
}

// Record returns the descriptor of a record.
func (x *Layout) Record(t int, arm string) (int, api.Errno) {
	switch {
	case x == nil:
		return 0, api.ErrArg
	case !x.has(t):
		return 0, api.ErrRange
	case x.table[t].Kind != api.TAdt:
		return 0, api.ErrKind
	case !hasArm(x.table[t], arm):
		return 0, api.ErrNone
	}
	return whole(x, func() int { return x.record(t, arm) })
}

// Descs returns all descriptors.
func (x *Layout) Descs() []api.Desc {
	if x == nil {
		return nil
	}
	l := slices.Clone(x.descs)
	for i, d := range l {
		l[i].Slots = slices.Clone(d.Slots)
	}
	return l
}

// Modules returns the module types that have a number.
func (x *Layout) Modules() []int {
	if x == nil {
		return nil
	}
	return slices.Clone(x.modules)
}

// wrongValue returns the error of a type that must be one of values.
func (x *Layout) wrongValue(t int) api.Errno {
	switch {
	case x == nil:
		return api.ErrArg
	case !x.has(t):
		return api.ErrRange
	case !x.isValue(t):
		return api.ErrType
	}
	return api.OK
}

// whole returns what is built, if there is room for all descriptors that are made for it; otherwise it keeps none of
// them.
func whole[T any](x *Layout, build func() T) (T, api.Errno) {
	descs, modules := len(x.descs), len(x.modules)
	built := build()
	if !x.full {
		return built, api.OK
	}
	x.full = false
	x.descs, x.modules = x.descs[:descs], x.modules[:modules]
	maps.DeleteFunc(x.given, func(_ owner, n int) bool { return n >= descs })
	var none T
	return none, api.ErrLimit
}

// value returns the slots of a value.
func (x *Layout) value(t int) []api.Slot {
	y := x.table[t]
	switch y.Kind {
	case api.TString:
		return one(api.SlotStr, 0)
	case api.TArray:
		return one(api.SlotArr, x.elem(y.Elems[0]))
	case api.TList:
		return one(api.SlotList, x.elem(y.Elems[0]))
	case api.TChan:
		return one(api.SlotChan, x.elem(y.Elems[0]))
	case api.TRef:
		return one(api.SlotRec, x.record(y.Elems[0], y.Name))
	case api.TModule:
		return one(api.SlotMod, x.module(t))
	case api.TTuple, api.TAdt:
		return x.behind(nil, y)
	}
	return one(api.SlotNum, 0)
}

func one(kind, desc int) []api.Slot { return []api.Slot{{Kind: kind, Desc: desc}} }

// behind returns slots, and behind them those of the parts of a type.
func (x *Layout) behind(slots []api.Slot, y api.Type) []api.Slot {
	for part := range parts(y) {
		more := x.value(part)
		slots = append(slots, more...)
	}
	return slots
}

func (x *Layout) elem(t int) int {
	return x.number(owner{class: x.class[t]}, func() []api.Slot { return x.value(t) })
}

func (x *Layout) record(t int, arm string) int {
	y := x.table[t]
	return x.number(owner{x.class[t], arm, true}, func() []api.Slot {
		return x.behind(make([]api.Slot, indexSlots(y)), api.Type{Fields: fieldsOf(y, arm)})
	})
}

// number returns the number of the descriptor of an owner; if there is none, one with these slots is made.
func (x *Layout) number(o owner, slots func() []api.Slot) int {
	if n, ok := x.given[o]; ok {
		return n
	}
	n := len(x.descs)
	if n == api.MaxDescs {
		x.full = true
		return 0
	}
	x.given[o] = n
	x.descs = append(x.descs, api.Desc{})
	made := slots()
	x.descs[n].Slots = made
	return n
}

// module returns the index of the first module type that is equal to one.
func (x *Layout) module(t int) int {
	isEqual := func(m int) bool { return x.class[m] == x.class[t] }
	if i := slices.IndexFunc(x.modules, isEqual); i >= 0 {
		return i
	}
	x.modules = append(x.modules, t)
	return len(x.modules) - 1
}
