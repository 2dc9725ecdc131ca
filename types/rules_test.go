package types_test

import (
	"slices"
	"strconv"
	"testing"

	"acheron/api"
	"acheron/types"
)

// roomy returns a table whose lists have room behind them, and a function that reports whether something is there now.
func roomy(l []api.Type) ([]api.Type, func() bool) {
	l = clone(l)
	untouched := []func() bool{}
	for i := range l {
		x := &l[i]
		elems := append(slices.Clone(x.Elems), 77, 77)
		fields := append(slices.Clone(x.Fields), api.Field{Name: "behind", Type: 77}, api.Field{})
		arms := append(slices.Clone(x.Arms), api.PArm{Name: "behind"})
		x.Elems, x.Fields, x.Arms = elems[:len(x.Elems)], fields[:len(x.Fields)], arms[:len(x.Arms)]
		n, m, k := len(x.Elems), len(x.Fields), len(x.Arms)
		untouched = append(untouched, func() bool {
			return elems[n] == 77 && elems[n+1] == 77 && fields[m] == api.Field{Name: "behind", Type: 77} && fields[m+1] == api.Field{} && arms[k].Name == "behind"
		})
		for a := range x.Arms {
			own := append(slices.Clone(x.Arms[a].Fields), api.Field{Name: "behind", Type: 77})
			count := len(own) - 1
			x.Arms[a].Fields = own[:count]
			untouched = append(untouched, func() bool { return own[count] == api.Field{Name: "behind", Type: 77} })
		}
	}
	all := append(slices.Clone(l), api.Type{Kind: 77})
	untouched = append(untouched, func() bool { return all[len(l)].Kind == 77 })
	return all[:len(l)], func() bool {
		return !slices.ContainsFunc(untouched, func(is func() bool) bool { return !is() })
	}
}

// callAll calls every function with a table, and returns all results as a text.
func callAll(l, m []api.Type) string {
	var b []byte
	note := func(s string, e api.Errno) { b = append(append(b, s...), "/"+e.Error()+" "...) }
	is := func(yes bool) string { return map[bool]string{true: "yes", false: "no"}[yes] }
	note("", types.Check(l))
	for a := -1; a <= len(l); a++ {
		note(is(types.Value(l, a)), api.OK)
		note(types.Text(l, a))
		note(types.Sig(l, a))
		n, e := types.Size(l, a)
		note(show([]api.Type{{Elems: []int{n}}}), e)
		for _, arm := range []string{"", "A", "B"} {
			for k := range 4 {
				p, e := types.Field(l, a, arm, k)
				note(show([]api.Type{{Elems: []int{p.At, p.Size, p.Type}}}), e)
			}
			k, found := types.Find(l, a, arm, "c")
			note(show([]api.Type{{Elems: []int{k}}})+is(found), api.OK)
		}
		for other := range l {
			yes, e := types.Equal(l, a, other)
			note(is(yes), e)
			yes, e = types.Assignable(l, a, other)
			note(is(yes), e)
		}
		for other := range m {
			yes, e := types.Across(l, a, m, other)
			note(is(yes), e)
			yes, e = types.Across(m, other, l, a)
			note(is(yes), e)
		}
	}
	x, e := types.NewLayout(l)
	note("", e)
	note(askAll(x, len(l)), api.OK)
	return string(b)
}

// askAll asks a layout all that can be asked.
func askAll(x *types.Layout, n int) string {
	var s string
	for t := -1; t <= n; t++ {
		for _, arm := range []string{"", "A", "B", "C"} {
			k, e := x.Record(t, arm)
			s += show([]api.Type{{Elems: []int{k, int(e)}}})
		}
		l, e := x.Slots(t)
		s += showSlots(l) + e.Error()
		k, e := x.Elem(t)
		s += show([]api.Type{{Elems: []int{k, int(e)}}})
	}
	return s + showDescs(x.Descs()) + show([]api.Type{{Elems: x.Modules()}})
}

// P2: equal calls have equal results, and no call changes a table, or what is behind its lists.
func TestArguments(t *testing.T) {
	for seed := range 60 {
		d := dice(seed)
		l, m := d.table(), d.table()
		if seed%3 == 0 {
			d.spoil(l)
		}
		first, firstUntouched := roomy(l)
		second, secondUntouched := roomy(m)
		want := callAll(first, second)
		if !firstUntouched() || !secondUntouched() || !same(first, l) || !same(second, m) {
			t.Fatalf("%d: a table has changed: %s, %s", seed, show(l), show(m))
		}
		if got := callAll(clone(l), clone(m)); got != want {
			t.Fatalf("%d: equal calls have other results: %q, %q", seed, got, want)
		}
	}
}

// P8.5: a layout keeps nothing of its table, and gives nothing of itself away.
func TestMemoryOfLayouts(t *testing.T) {
	for seed := range 100 {
		d := dice(seed)
		l := d.table()
		n := len(l)
		want := askAll(layout(t, l), n)
		x := layout(t, l)
		for i := range l { // the table is no more what it was
			for part := range partsOf(&l[i]) {
				*part = -1
			}
			for k := range l[i].Fields {
				l[i].Fields[k].Name = "?"
			}
			for k := range l[i].Arms {
				for f := range l[i].Arms[k].Fields {
					l[i].Arms[k].Fields[f].Name = "?"
				}
				l[i].Arms[k].Name = "?"
			}
			l[i] = api.Type{Kind: -1}
		}
		if got := askAll(x, n); got != want {
			t.Fatalf("%d: a layout has changed with its table: %s, want %s", seed, got, want)
		}
		for range 2 {
			for _, d := range x.Descs() {
				for i := range d.Slots {
					d.Slots[i].Kind = -1
				}
			}
			clear(x.Descs())
			for a := range n {
				if s, e := x.Slots(a); e == api.OK {
					clear(s)
					_ = append(s[:0], api.Slot{Kind: -1})
				}
			}
			modules := x.Modules()
			for i := range modules {
				modules[i] = -1
			}
			_ = append(modules, -1)
		}
		if got := askAll(x, n); got != want {
			t.Fatalf("%d: a layout has changed with its results: %s, want %s", seed, got, want)
		}
	}
}

// P8.1 to P8.5: the largest tables do not take long.
func TestLargeTables(t *testing.T) {
	var l []api.Type
	for i := range api.MaxTypes / 2 { // references in a ring, in which one adt is not as the others are
		adt := api.Type{Kind: api.TAdt, Name: "A", Fields: fields(200, 2*i)}
		l = append(l, api.Type{Kind: api.TRef, Elems: []int{(2*i + 3) % api.MaxTypes}}, adt)
	}
	l[1].Fields[7].Name = "other"
	if is, e := types.Equal(l, 2, 4); is || e != api.OK {
		t.Errorf("Equal in a ring: %v, %v", is, e)
	}
	x := layout(t, l)
	if n, e := x.Elem(0); n != 1 || e != api.OK {
		t.Errorf("Elem = %d, %v", n, e)
	}
	if n := len(x.Descs()); n != api.MaxTypes/2+2 {
		t.Errorf("%d descriptors", n)
	}
	many := table("int")
	pick := api.Type{Kind: api.TAdt, Name: "P", Fields: fields(255, 0)}
	for i := range api.MaxSlots {
		pick.Arms = append(pick.Arms, api.PArm{Name: "A" + strconv.Itoa(i)})
	}
	for len(many) < api.MaxTypes {
		many = append(many, pick)
	}
	if n, e := types.Size(many, api.MaxTypes-1); n != 256 || e != api.OK {
		t.Errorf("Size = %d, %v", n, e)
	}
	if is, e := types.Equal(many, 1, api.MaxTypes-1); !is || e != api.OK {
		t.Errorf("Equal of adts with many arms: %v, %v", is, e)
	}
}
