package types_test

import (
	"slices"
	"testing"

	"acheron/api"
	"acheron/digest"
	"acheron/types"
)

// lower returns a type that fits among those that are made already, and adds an int if there is none.
func (d *dice) lower(l *[]api.Type, fits func(api.Type) bool) int {
	var all []int
	for t, x := range *l {
		if fits(x) {
			all = append(all, t)
		}
	}
	if all == nil {
		*l = append(*l, api.Type{Kind: api.TInt})
		return len(*l) - 1
	}
	return all[d.below(len(all))]
}

func isVariable(x api.Type) bool {
	return x.Kind != api.TVoid && x.Kind != api.TFn && x.Kind != api.TNil && len(x.Arms) == 0
}

func isResult(x api.Type) bool { return isVariable(x) || x.Kind == api.TVoid }

func (d *dice) fields(l *[]api.Type, n int, names ...string) (all []api.Field) {
	d.shuffle(names)
	for _, name := range names[:n] {
		all = append(all, api.Field{Name: name, Type: d.lower(l, isVariable)})
	}
	return all
}

func (d *dice) shuffle(names []string) {
	for i := range names {
		k := d.below(i + 1)
		names[i], names[k] = names[k], names[i]
	}
}

// add adds a type to a table whose references have no adts yet.
func (d *dice) add(l []api.Type) []api.Type {
	x := api.Type{Kind: oneOf(d, api.TVoid, api.TByte, api.TInt, api.TString, api.TNil, api.TArray, api.TList, api.TChan, api.TRef, api.TRef, api.TRef,
		api.TAdt, api.TAdt, api.TAdt, api.TTuple, api.TFn, api.TFn, api.TModule)}
	switch x.Kind {
	case api.TArray, api.TList, api.TChan:
		x.Elems = []int{d.lower(&l, isVariable)}
	case api.TTuple:
		for range 2 + d.below(2) {
			x.Elems = append(x.Elems, d.lower(&l, isVariable))
		}
	case api.TFn:
		for range d.below(3) {
			x.Elems = append(x.Elems, d.lower(&l, isVariable))
		}
		x.Elems = append(x.Elems, d.lower(&l, isResult))
	case api.TAdt:
		x.Name = oneOf(d, "N", "M")
		if d.chance(2) {
			x.Fields = d.fields(&l, 1+d.below(2), "a", "b")
			break
		}
		x.Fields = d.fields(&l, d.below(2), "a", "b")
		arms := []string{"A", "B"}
		d.shuffle(arms)
		for _, arm := range arms[:1+d.below(2)] {
			x.Arms = append(x.Arms, api.PArm{Name: arm, Fields: d.fields(&l, d.below(3), "c", "d")})
		}
	case api.TModule:
		x.Name = oneOf(d, "N", "M")
		names := []string{"f", "g"}
		d.shuffle(names)
		for _, name := range names[:d.below(3)] {
			if slices.ContainsFunc(l, func(y api.Type) bool { return y.Kind == api.TFn }) {
				x.Fields = append(x.Fields, api.Field{Name: name, Type: d.lower(&l, func(y api.Type) bool { return y.Kind == api.TFn })})
			}
		}
	}
	return append(l, x)
}

// refer gives an adt to each reference.
func (d *dice) refer(l []api.Type) {
	var adts []int
	for t, x := range l {
		if x.Kind == api.TAdt {
			adts = append(adts, t)
		}
	}
	for i, x := range l {
		switch {
		case x.Kind != api.TRef:
		case adts == nil:
			l[i].Kind = api.TByte
		default:
			adt := adts[d.below(len(adts))]
			l[i].Elems = []int{adt}
			if arms := l[adt].Arms; len(arms) > 0 && d.chance(2) {
				l[i].Name = arms[d.below(len(arms))].Name
			}
		}
	}
}

// twins returns a table with a copy of each type, in which each part is the old one or the copy.
func (d *dice) twins(l []api.Type) []api.Type {
	n := len(l)
	l = append(clone(l), clone(l)...)
	for i := range l {
		for t := range partsOf(&l[i]) {
			*t += n * d.below(2)
		}
	}
	return l
}

// mixed returns a table with its types in another order.
func (d *dice) mixed(l []api.Type) []api.Type {
	var to []int
	for i := range l {
		to = slices.Insert(to, d.below(i+1), i)
	}
	m := make([]api.Type, len(l))
	for i, x := range clone(l) {
		for t := range partsOf(&x) {
			*t = to[*t]
		}
		m[to[i]] = x
	}
	return m
}

// table returns a right table. Some begin with equal types that are more than the other ones.
func (d *dice) table() []api.Type {
	l := slices.Repeat([]api.Type{{Kind: oneOf(d, api.TInt, api.TString)}}, d.below(3)*d.below(6))
	for range 1 + d.below(16) {
		l = d.add(l)
	}
	d.refer(l)
	if d.chance(2) {
		l = d.twins(l)
	}
	return d.mixed(l)
}

const tables = 700

// P8.2, P8.3, P8.6: equality, what is assignable, and texts.
func TestEqualityOfRandomTables(t *testing.T) {
	equal, seen := 0, map[string]bool{}
	for seed := range tables {
		d := dice(seed)
		l := d.table()
		if e := types.Check(l); e != api.OK {
			t.Fatalf("%d: Check of %s: %v", seed, show(l), e)
		}
		m := newModel(l)
		for a := range l {
			text, e := types.Text(l, a)
			if want := m.text(a, new([]int)); text != want || e != api.OK {
				t.Fatalf("%d: Text(%s, %d) = %q, %v, want %q", seed, show(l), a, text, e, want)
			}
			if s, e := types.Sig(l, a); s != digest.Hex(digest.Sum(text)) || e != api.OK {
				t.Fatalf("%d: Sig(%s, %d) = %q, %v", seed, show(l), a, s, e)
			}
			if types.Value(l, a) != isValue(l, a) {
				t.Fatalf("%d: Value(%s, %d)", seed, show(l), a)
			}
			seen[text] = true
			for b := range l {
				if is, e := types.Equal(l, a, b); is != m.eq[a][b] || e != api.OK {
					t.Fatalf("%d: Equal(%s, %d, %d) = %v, %v", seed, show(l), a, b, is, e)
				}
				if is, e := types.Assignable(l, a, b); is != m.assignable(a, b) || e != api.OK {
					t.Fatalf("%d: Assignable(%s, %d, %d) = %v, %v", seed, show(l), a, b, is, e)
				}
				if a != b && m.eq[a][b] {
					equal++
				}
			}
		}
	}
	if equal < 8000 || len(seen) < 1500 {
		t.Errorf("%d pairs are equal, and %d texts are different", equal, len(seen))
	}
}

// P8.2, P8.6: types of two tables, and of a table with its copy behind it.
func TestRandomTablesTogether(t *testing.T) {
	equal := 0
	for seed := range tables {
		d := dice(seed + 1e6)
		l, other := d.table(), d.table()
		n := len(l)
		m := newModel(append(clone(l), movedBy(other, n)...))
		for range 80 {
			a, b := d.below(n), d.below(len(other))
			is, e := types.Across(l, a, other, b)
			if is != m.eq[a][n+b] || e != api.OK {
				t.Fatalf("%d: Across(%s, %d, %s, %d) = %v, %v", seed, show(l), a, show(other), b, is, e)
			}
			first, _ := types.Text(l, a)
			second, _ := types.Text(other, b)
			if is != (first == second) {
				t.Fatalf("%d: Across(%s, %d, %s, %d) = %v, of %q and %q", seed, show(l), a, show(other), b, is, first, second)
			}
			if is && l[a].Kind >= api.TArray {
				equal++
			}
		}
		both := append(clone(l), movedBy(l, n)...)
		for a := range l {
			if is, e := types.Equal(both, a, n+a); !is || e != api.OK {
				t.Fatalf("%d: Equal(%s, %d, %d) = %v, %v", seed, show(both), a, n+a, is, e)
			}
		}
	}
	if equal < 150 {
		t.Errorf("%d pairs are equal", equal)
	}
}

// P8.4, P8.6: sizes and places.
func TestSizesOfRandomTables(t *testing.T) {
	for seed := range tables {
		d := dice(seed + 2e6)
		l := d.table()
		m := newModel(l)
		for a, x := range l {
			if n, e := types.Size(l, a); n != m.size(a) || e != api.OK {
				t.Fatalf("%d: Size(%s, %d) = %d, %v", seed, show(l), a, n, e)
			}
			for _, arm := range []string{"", "A", "B", "a"} {
				for k := -1; k < 7; k++ {
					want, wantE := m.field(a, arm, k)
					if p, e := types.Field(l, a, arm, k); p != want || e != wantE {
						t.Fatalf("%d: Field(%s, %d, %q, %d) = %v, %v, want %v, %v", seed, show(l), a, arm, k, p, e, want, wantE)
					}
				}
				names := slices.Clone(x.Fields)
				_, ok := m.fields(a, arm)
				for _, y := range x.Arms {
					if y.Name == arm {
						names = append(names, y.Fields...)
					}
				}
				for _, name := range []string{"", "a", "b", "c", "d", "f", "g", "A"} {
					want := slices.IndexFunc(names, func(f api.Field) bool { return f.Name == name })
					if k, found := types.Find(l, a, arm, name); found != (ok && want >= 0) || found && k != want || !found && k != 0 {
						t.Fatalf("%d: Find(%s, %d, %q, %q) = %d, %v", seed, show(l), a, arm, name, k, found)
					}
				}
			}
		}
	}
}

// P8.5, P8.6: layouts that are asked in any order, twice.
func TestLayoutsOfRandomTables(t *testing.T) {
	descs, modules := 0, 0
	for seed := range tables {
		d := dice(seed + 3e6)
		l := d.table()
		want, x := newModel(l).layout(), layout(t, l)
		for range 30 {
			want = askBoth(t, &d, want, x)
		}
		descs, modules = descs+len(want.descs), modules+len(want.modules)
	}
	if descs < 5*tables || modules < tables/4 {
		t.Errorf("%d descriptors, %d modules", descs, modules)
	}
}

// askBoth asks a layout, and its model, one question.
func askBoth(t *testing.T, d *dice, want layoutModel, x *types.Layout) layoutModel {
	t.Helper()
	a, arm := d.below(len(want.l)+1)-d.below(2), oneOf(d, "", "A", "B")
	next, wantE := want, api.OK
	var slots, wantSlots []api.Slot
	var n, wantN int
	var e api.Errno
	question := d.below(3)
	switch has := a >= 0 && a < len(want.l); {
	case !has:
		wantE = api.ErrRange
	case question == 2 && want.l[a].Kind != api.TAdt:
		wantE = api.ErrKind
	case question == 2:
		if _, ok := want.fields(a, arm); !ok {
			wantE = api.ErrNone
		} else {
			next, wantN = want.record(a, arm)
		}
	case !isValue(want.l, a):
		wantE = api.ErrType
	case question == 0:
		next, wantSlots = want.slots(a)
	default:
		next, wantN = want.elem(a)
	}
	switch question {
	case 0:
		slots, e = x.Slots(a)
	case 1:
		n, e = x.Elem(a)
	case 2:
		n, e = x.Record(a, arm)
	}
	if e != wantE || n != wantN || showSlots(slots) != showSlots(wantSlots) {
		t.Fatalf("%s: question %d of %d %q: %q, %d, %v, want %q, %d, %v", show(want.l), question, a, arm, showSlots(slots), n, e, showSlots(wantSlots), wantN, wantE)
	}
	if got := x.Descs(); showDescs(got) != showDescs(next.descs) || !slices.Equal(x.Modules(), next.modules) {
		t.Fatalf("%s: question %d of %d %q: %q, %v, want %q, %v", show(want.l), question, a, arm, showDescs(got), x.Modules(), showDescs(next.descs), next.modules)
	}
	return next
}
