package types_test

import (
	"cmp"
	"slices"
	"strconv"
	"strings"

	"acheron/api"
	"acheron/types"
)

// model answers for a table what the package must answer, with no thought of how long that takes.
type model struct {
	l  []api.Type
	eq [][]bool // which types no sequence of steps to parts tells apart
}

func newModel(l []api.Type) *model {
	m := &model{l: l}
	for range l {
		m.eq = append(m.eq, slices.Repeat([]bool{true}, len(l)))
	}
	for changed := true; changed; {
		changed = false
		for a := range l {
			for b := range l {
				if m.eq[a][b] && !m.alike(l[a], l[b]) {
					m.eq[a][b], changed = false, true
				}
			}
		}
	}
	return m
}

// alike reports whether two types and their parts are not told apart yet.
func (m *model) alike(x, y api.Type) bool {
	elems := func(s, t int) bool { return m.eq[s][t] }
	field := func(f, g api.Field) bool { return f.Name == g.Name && m.eq[f.Type][g.Type] }
	arm := func(a, b api.PArm) bool { return a.Name == b.Name && slices.EqualFunc(a.Fields, b.Fields, field) }
	if x.Kind == api.TModule && y.Kind == api.TModule {
		has := func(l []api.Field) func(api.Field) bool {
			return func(f api.Field) bool {
				return slices.ContainsFunc(l, func(g api.Field) bool { return field(f, g) })
			}
		}
		return len(x.Fields) == len(y.Fields) && len(x.Fields) == len(slices.DeleteFunc(slices.Clone(x.Fields), func(f api.Field) bool { return !has(y.Fields)(f) }))
	}
	return x.Kind == y.Kind && (x.Kind != api.TRef || x.Name == y.Name) &&
		slices.EqualFunc(x.Elems, y.Elems, elems) && slices.EqualFunc(x.Fields, y.Fields, field) && slices.EqualFunc(x.Arms, y.Arms, arm)
}

func (m *model) assignable(to, from int) bool {
	x, y := m.l[to], m.l[from]
	return isValue(m.l, to) && m.eq[to][from] ||
		y.Kind == api.TNil && slices.Contains([]int{api.TArray, api.TList, api.TChan, api.TRef, api.TModule}, x.Kind) ||
		x.Kind == api.TRef && y.Kind == api.TRef && x.Name == "" && m.eq[x.Elems[0]][y.Elems[0]]
}

func isValue(l []api.Type, t int) bool {
	return !slices.Contains([]int{api.TVoid, api.TFn, api.TNil}, l[t].Kind) && (l[t].Kind != api.TAdt || l[t].Arms == nil)
}

// text returns the canonical text of a type behind those that have a number already.
func (m *model) text(t int, known *[]int) string {
	x := m.l[t]
	if x.Kind < api.TArray || x.Kind == api.TNil {
		return kindWords[x.Kind]
	}
	if i := slices.IndexFunc(*known, func(k int) bool { return m.eq[k][t] }); i >= 0 {
		return "#" + strconv.Itoa(i)
	}
	*known = append(*known, t)
	all := func(l []int) string {
		var texts []string
		for _, t := range l {
			texts = append(texts, m.text(t, known))
		}
		return "(" + strings.Join(texts, ",") + ")"
	}
	named := func(l []api.Field) string {
		var texts []string
		for _, f := range l {
			texts = append(texts, f.Name+":"+m.text(f.Type, known))
		}
		return "{" + strings.Join(texts, ";")
	}
	switch x.Kind {
	case api.TTuple:
		return all(x.Elems)
	case api.TFn:
		last := len(x.Elems) - 1
		return "fn" + all(x.Elems[:last]) + ":" + m.text(x.Elems[last], known)
	case api.TModule:
		return "module" + named(slices.SortedFunc(slices.Values(x.Fields), func(f, g api.Field) int { return cmp.Compare(f.Name, g.Name) })) + "}"
	case api.TAdt:
		s := "adt" + named(x.Fields)
		for _, arm := range x.Arms {
			s += "|" + arm.Name + named(arm.Fields) + "}"
		}
		return s + "}"
	case api.TRef:
		if x.Name != "" {
			return "ref." + x.Name + all(x.Elems)
		}
	}
	return kindWords[x.Kind] + all(x.Elems)
}

// fields returns the types of the fields of an adt with an arm, or of the parts of a tuple, and whether there is this
// arm.
func (m *model) fields(t int, arm string) (l []int, ok bool) {
	x := m.l[t]
	l, ok = slices.Clone(x.Elems), arm == ""
	for _, f := range x.Fields {
		l = append(l, f.Type)
	}
	for _, a := range x.Arms {
		if a.Name == arm {
			ok = true
			for _, f := range a.Fields {
				l = append(l, f.Type)
			}
		}
	}
	return l, ok
}

// size returns the number of slots of a value, or of the record of a pick adt without an arm.
func (m *model) size(t int) int {
	x := m.l[t]
	switch x.Kind {
	case api.TVoid, api.TFn, api.TNil:
		return 0
	case api.TTuple, api.TAdt:
		parts, _ := m.fields(t, "")
		n := m.tag(t)
		for _, part := range parts {
			n += m.size(part)
		}
		return n
	}
	return 1
}

// tag returns 1 for a pick adt.
func (m *model) tag(t int) int { return min(1, len(m.l[t].Arms)) }

func (m *model) field(t int, arm string, k int) (types.Place, api.Errno) {
	if kind := m.l[t].Kind; kind != api.TAdt && kind != api.TTuple {
		return types.Place{}, api.ErrKind
	}
	parts, ok := m.fields(t, arm)
	if !ok {
		return types.Place{}, api.ErrNone
	}
	if k < 0 || k >= len(parts) {
		return types.Place{}, api.ErrRange
	}
	at := m.tag(t)
	for _, part := range parts[:k] {
		at += m.size(part)
	}
	return types.Place{At: at, Size: m.size(parts[k]), Type: parts[k]}, api.OK
}

// layoutModel is what a layout must be: a value, so a call that fails leaves the one before it.
type layoutModel struct {
	*model
	descs   []api.Desc
	owners  []string // of the descriptors: the text of an element, or of an adt, and its arm
	modules []int
}

func (m *model) layout() layoutModel {
	return layoutModel{model: m, descs: []api.Desc{{}}, owners: []string{""}}
}

func (x layoutModel) slots(t int) (layoutModel, []api.Slot) {
	y := x.l[t]
	slot := func(kind, desc int) []api.Slot { return []api.Slot{{Kind: kind, Desc: desc}} }
	n := 0
	switch y.Kind {
	case api.TString:
		return x, slot(api.SlotStr, 0)
	case api.TArray, api.TList, api.TChan:
		x, n = x.elem(y.Elems[0])
		return x, slot(map[int]int{api.TArray: api.SlotArr, api.TList: api.SlotList, api.TChan: api.SlotChan}[y.Kind], n)
	case api.TRef:
		x, n = x.record(y.Elems[0], y.Name)
		return x, slot(api.SlotRec, n)
	case api.TModule:
		if n = slices.IndexFunc(x.modules, func(m int) bool { return x.eq[m][t] }); n < 0 {
			n = len(x.modules)
			x.modules = append(slices.Clone(x.modules), t)
		}
		return x, slot(api.SlotMod, n)
	case api.TTuple, api.TAdt:
		return x.all(t, "")
	}
	return x, slot(api.SlotNum, 0)
}

func (x layoutModel) all(t int, arm string) (layoutModel, []api.Slot) {
	parts, _ := x.fields(t, arm)
	l := make([]api.Slot, x.tag(t))
	for _, part := range parts {
		var more []api.Slot
		x, more = x.slots(part)
		l = append(l, more...)
	}
	return x, l
}

func (x layoutModel) elem(t int) (layoutModel, int) {
	return x.desc("elem "+x.text(t, new([]int)), func(x layoutModel) (layoutModel, []api.Slot) { return x.slots(t) })
}

func (x layoutModel) record(t int, arm string) (layoutModel, int) {
	return x.desc("record "+arm+" "+x.text(t, new([]int)), func(x layoutModel) (layoutModel, []api.Slot) { return x.all(t, arm) })
}

func (x layoutModel) desc(owner string, slots func(layoutModel) (layoutModel, []api.Slot)) (layoutModel, int) {
	if n := slices.Index(x.owners, owner); n >= 0 {
		return x, n
	}
	n := len(x.descs)
	x.owners = append(slices.Clone(x.owners), owner)
	x.descs = append(slices.Clone(x.descs), api.Desc{})
	var l []api.Slot
	x, l = slots(x)
	x.descs = slices.Clone(x.descs)
	x.descs[n].Slots = l
	return x, n
}
