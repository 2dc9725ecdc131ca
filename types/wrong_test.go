package types_test

import (
	"slices"
	"strings"
	"testing"

	"acheron/api"
	"acheron/types"
)

// checkModel returns the first error of a table by the words of the document, one step behind the other.
func checkModel(l []api.Type) api.Errno {
	for _, step := range []func(l []api.Type, t int) []api.Errno{formErrors, useErrors, orderErrors, sizeErrors} {
		for t := range l {
			if errors := step(l, t); len(errors) > 0 {
				return errors[0]
			}
		}
	}
	return api.OK
}

// errorList has errors in their order.
type errorList []api.Errno

func (l *errorList) add(e api.Errno, wrong bool) {
	if wrong {
		*l = append(*l, e)
	}
}

func isGoodName(s string) bool {
	const digits, others = "0123456789", "abcdefghijklmnopqrstuvwxyzABCDEFGHIJKLMNOPQRSTUVWXYZ_"
	return s != "" && len(s) <= 40 && strings.Trim(s, digits+others) == "" && !strings.Contains(digits, s[:1])
}

func hasDouble(names []string) bool {
	return len(slices.Compact(slices.Sorted(slices.Values(names)))) < len(names)
}

func formErrors(l []api.Type, t int) []api.Errno {
	x := l[t]
	if x.Kind < 0 || x.Kind >= len(kindWords) {
		return []api.Errno{api.ErrKind}
	}
	var errors errorList
	word, elems, fields, arms := kindWords[x.Kind], len(x.Elems), len(x.Fields), len(x.Arms)
	least := map[string]int{"array": 1, "list": 1, "chan": 1, "ref": 1, "tuple": 2, "fn": 1}[word]
	errors.add(api.ErrShape, elems < least || elems > least && word != "tuple" && word != "fn")
	errors.add(api.ErrShape, fields > 0 && word != "adt" && word != "module" || arms > 0 && word != "adt" || word == "adt" && fields+arms == 0)
	errors.add(api.ErrLimit, max(elems, fields, arms) > 256)
	var armNames, fieldNames []string
	records := [][]string{nil}
	for _, f := range x.Fields {
		fieldNames = append(fieldNames, f.Name)
		records[0] = append(records[0], f.Name)
	}
	for _, arm := range x.Arms {
		errors.add(api.ErrLimit, len(arm.Fields) > 256)
		armNames = append(armNames, arm.Name)
		record := slices.Clone(records[0])
		for _, f := range arm.Fields {
			fieldNames = append(fieldNames, f.Name)
			record = append(record, f.Name)
		}
		records = append(records, record)
	}
	for part := range partsOf(&x) {
		errors.add(api.ErrRange, *part < 0 || *part >= len(l))
	}
	switch word {
	case "adt", "module":
		errors.add(api.ErrName, !isGoodName(x.Name))
	case "ref":
		errors.add(api.ErrName, x.Name != "" && !isGoodName(x.Name))
	default:
		errors.add(api.ErrName, x.Name != "")
	}
	for _, name := range append(fieldNames, armNames...) {
		errors.add(api.ErrName, !isGoodName(name))
	}
	errors.add(api.ErrTwice, hasDouble(armNames) || slices.ContainsFunc(records, hasDouble))
	return errors
}

func useErrors(l []api.Type, t int) []api.Errno {
	x := l[t]
	var errors errorList
	for i, part := range slices.Collect(partsOf(&x)) {
		good := isValue(l, *part)
		switch {
		case x.Kind == api.TFn && i == len(x.Elems)-1:
			good = good || l[*part].Kind == api.TVoid
		case x.Kind == api.TRef:
			good = l[*part].Kind == api.TAdt
		case x.Kind == api.TModule:
			good = l[*part].Kind == api.TFn
		}
		errors.add(api.ErrType, !good)
	}
	if x.Kind == api.TRef && x.Name != "" {
		errors.add(api.ErrNone, !slices.ContainsFunc(l[x.Elems[0]].Arms, func(arm api.PArm) bool { return arm.Name == x.Name }))
	}
	return errors
}

func orderErrors(l []api.Type, t int) []api.Errno {
	seen := map[int]bool{}
	next := []int{t}
	for len(next) > 0 {
		x := l[next[0]]
		next = next[1:]
		for part := range partsOf(&x) {
			if x.Kind != api.TRef && *part == t {
				return []api.Errno{api.ErrOrder}
			}
			if x.Kind != api.TRef && !seen[*part] {
				seen[*part] = true
				next = append(next, *part)
			}
		}
	}
	return nil
}

func sizeErrors(l []api.Type, t int) []api.Errno {
	m := model{l: l}
	var errors errorList
	errors.add(api.ErrLimit, m.size(t) > 256)
	for _, arm := range l[t].Arms {
		parts, _ := m.fields(t, arm.Name)
		n := 1
		for _, part := range parts {
			n += m.size(part)
		}
		errors.add(api.ErrLimit, n > 256)
	}
	return errors
}

// spoil changes something of a table.
func (d *dice) spoil(l []api.Type) {
	x := &l[d.below(len(l))]
	if x.Kind < api.TArray && d.chance(2) { // the others have more that can be wrong
		x = &l[d.below(len(l))]
	}
	name := oneOf(d, "", "a", "A", "B", "9", "a-b", "f", strings.Repeat("a", 41))
	field := api.Field{Name: name, Type: d.below(len(l)+2) - 1}
	parts := slices.Collect(partsOf(x))
	switch d.below(10) {
	case 0:
		x.Kind = d.below(len(kindWords)+2) - 1
	case 1:
		x.Name = name
	case 2:
		x.Elems = append(x.Elems, d.below(len(l)+2)-1)
	case 3:
		x.Fields = append(x.Fields, field)
	case 4:
		x.Arms = append(x.Arms, api.PArm{Name: name})
	case 5:
		if len(x.Elems) > 0 {
			x.Elems = x.Elems[1:]
		}
	case 6:
		if n := len(x.Arms); n > 0 {
			arm := &x.Arms[d.below(n)]
			arm.Fields = append(arm.Fields, field)
		}
	case 7:
		if n := len(x.Fields); n > 0 {
			x.Fields[d.below(n)].Name = name
		}
	default:
		if len(parts) > 0 {
			*parts[d.below(len(parts))] = oneOf(d, d.below(len(l)), d.below(len(l)), d.below(len(l)), -1, len(l))
		}
	}
}

// P8.1: tables that are wrong in any way.
func TestSpoiltTables(t *testing.T) {
	count := map[api.Errno]int{}
	for seed := range 20000 {
		d := dice(seed)
		l := d.table()
		for range 1 + d.below(3) {
			d.spoil(l)
		}
		want := checkModel(l)
		if e := types.Check(l); e != want {
			t.Fatalf("%d: Check of %s: %v, want %v", seed, show(l), e, want)
		}
		count[want]++
	}
	for _, e := range []api.Errno{api.OK, api.ErrKind, api.ErrShape, api.ErrRange, api.ErrName, api.ErrTwice, api.ErrType, api.ErrNone, api.ErrOrder} {
		if count[e] < 50 {
			t.Errorf("%d tables with %v", count[e], e)
		}
	}
}

// P8.1: sizes around the limit.
func TestSizesOfWrongTables(t *testing.T) {
	count := map[api.Errno]int{}
	for seed := range 3000 {
		d := dice(seed)
		l := table("int, string, list 0, void, fn 3")
		for range 4 + d.below(6) {
			part := func() int { return oneOf(&d, d.below(3), d.below(len(l)), len(l)-1) }
			x := api.Type{Kind: api.TTuple, Elems: []int{part(), part()}}
			for range d.below(7) {
				x.Elems = append(x.Elems, part())
			}
			if d.chance(3) {
				x = api.Type{Kind: api.TAdt, Name: "A"}
				for i := range 1 + d.below(5) {
					x.Fields = append(x.Fields, api.Field{Name: string(rune('a' + i)), Type: part()})
				}
				if d.chance(2) {
					x.Arms = []api.PArm{{Name: "A", Fields: fields(d.below(3), part())}, {Name: "B", Fields: fields(d.below(3), part())}}
				}
			}
			for p := range partsOf(&x) {
				if !isValue(l, *p) {
					*p = 0
				}
			}
			l = append(l, x)
		}
		want := checkModel(l)
		if e := types.Check(l); e != want {
			t.Fatalf("%d: Check of %s: %v, want %v", seed, show(l), e, want)
		}
		count[want]++
	}
	if count[api.OK] < 300 || count[api.ErrLimit] < 300 || len(count) > 2 {
		t.Errorf("results: %v", count)
	}
}
