package types

import (
	"slices"

	"acheron/api"
)

// Check returns the first error of a table.
func Check(l []api.Type) api.Errno {
	if len(l) > api.MaxTypes {
		return api.ErrLimit
	}
	t := table(l)
	for _, wrong := range []func() api.Errno{t.wrongForm, t.wrongUse, t.wrongOrder, t.wrongSize} {
		if e := wrong(); e != api.OK {
			return e
		}
	}
	return api.OK
}

// wrongForm returns the first error that types have by themselves.
func (l table) wrongForm() api.Errno {
	for _, x := range l {
		switch {
		case x.Kind < api.TVoid || x.Kind > api.TNil:
			return api.ErrKind
		case !hasShape(x):
			return api.ErrShape
		case hasTooMany(x):
			return api.ErrLimit
		}
		for t := range parts(x) {
			if !l.has(t) {
				return api.ErrRange
			}
		}
		switch {
		case !hasNames(x):
			return api.ErrName
		case hasTwice(x):
			return api.ErrTwice
		}
	}
	return api.OK
}

// hasShape reports whether a type has what its kind has.
func hasShape(x api.Type) bool {
	fields, arms := len(x.Fields) > 0, len(x.Arms) > 0
	switch x.Kind {
	case api.TArray, api.TList, api.TChan, api.TRef:
		return len(x.Elems) == 1 && !fields && !arms
	case api.TTuple:
		return len(x.Elems) >= 2 && !fields && !arms
	case api.TFn:
		return len(x.Elems) >= 1 && !fields && !arms
	case api.TAdt:
		return len(x.Elems) == 0 && (fields || arms)
	case api.TModule:
		return len(x.Elems) == 0 && !arms
	}
	return len(x.Elems) == 0 && !fields && !arms
}

func hasTooMany(x api.Type) bool {
	most := max(len(x.Elems), len(x.Fields), len(x.Arms))
	for _, arm := range x.Arms {
		most = max(most, len(arm.Fields))
	}
	return most > api.MaxSlots
}

// hasNames reports whether a type, its fields and its arms have the names that they must have.
func hasNames(x api.Type) bool {
	switch x.Kind {
	case api.TAdt, api.TModule:
		if !isName(x.Name) {
			return false
		}
	case api.TRef:
		if x.Name != "" && !isName(x.Name) {
			return false
		}
	default:
		if x.Name != "" {
			return false
		}
	}
	for f := range allFields(x) {
		if !isName(f.Name) {
			return false
		}
	}
	return !slices.ContainsFunc(x.Arms, func(arm api.PArm) bool { return !isName(arm.Name) })
}

func isName(s string) bool {
	if s == "" || len(s) > api.MaxName || isDigit(s[0]) {
		return false
	}
	for i := range len(s) {
		if c := s[i]; !isDigit(c) && !isLetter(c) && c != '_' {
			return false
		}
	}
	return true
}

func isDigit(c byte) bool { return c >= '0' && c <= '9' }

func isLetter(c byte) bool { return c >= 'a' && c <= 'z' || c >= 'A' && c <= 'Z' }

// hasTwice reports whether two arms, or two fields of a record, have the same name.
func hasTwice(x api.Type) bool {
	common := map[string]bool{}
	if addTwice(common, x.Fields) {
		return true
	}
	arms := map[string]bool{}
	for _, arm := range x.Arms {
		isCommon := func(f api.Field) bool { return common[f.Name] }
		if arms[arm.Name] || slices.ContainsFunc(arm.Fields, isCommon) || addTwice(map[string]bool{}, arm.Fields) {
			return true
		}
		arms[arm.Name] = true
	}
	return false
}

// addTwice adds the names of fields to others, and reports whether one of them is there already.
func addTwice(names map[string]bool, l []api.Field) bool {
	for _, f := range l {
		if names[f.Name] {
			return true
		}
		names[f.Name] = true
	}
	return false
}

// wrongUse returns the first error of types that stand where they must not.
func (l table) wrongUse() api.Errno {
	for _, x := range l {
		if !l.fits(x) {
			return api.ErrType
		}
		if x.Kind == api.TRef && !hasArm(l[x.Elems[0]], x.Name) {
			return api.ErrNone
		}
	}
	return api.OK
}

// fits reports whether the parts of a type are types that may be there.
func (l table) fits(x api.Type) bool {
	if x.Kind == api.TFn {
		last := len(x.Elems) - 1
		result := x.Elems[last]
		if !l.isValue(result) && l[result].Kind != api.TVoid {
			return false
		}
		x.Elems = x.Elems[:last]
	}
	for t := range parts(x) {
		fit := l.isValue(t)
		switch x.Kind {
		case api.TRef:
			fit = l[t].Kind == api.TAdt
		case api.TModule:
			fit = l[t].Kind == api.TFn
		}
		if !fit {
			return false
		}
	}
	return true
}

// wrongOrder returns ErrOrder if a type has itself as a part, other than behind references.
func (l table) wrongOrder() api.Errno {
	const begun, done = 1, 2
	state := make([]int, len(l))
	var ends func(t int) bool
	ends = func(t int) bool {
		if state[t] != 0 {
			return state[t] == done
		}
		state[t] = begun
		if l[t].Kind != api.TRef {
			for part := range parts(l[t]) {
				if !ends(part) {
					return false
				}
			}
		}
		state[t] = done
		return true
	}
	for t := range l {
		if !ends(t) {
			return api.ErrOrder
		}
	}
	return api.OK
}

// wrongSize returns ErrLimit if a value or a record has too many slots.
func (l table) wrongSize() api.Errno {
	m := newMeasure(l)
	for t, x := range l {
		largest := m.size(t)
		for _, arm := range x.Arms {
			largest = max(largest, m.sum(m.size(t), arm.Fields))
		}
		if largest > api.MaxSlots {
			return api.ErrLimit
		}
	}
	return api.OK
}
