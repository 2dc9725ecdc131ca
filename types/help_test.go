package types_test

import (
	"slices"
	"strconv"
	"strings"
	"testing"

	"acheron/api"
	"acheron/types"
)

// kindWords has the words for kinds of types, in the order of api's constants.
var kindWords = strings.Fields("void byte int big real string array list chan ref adt tuple fn module nil")

// table reads a table: types with commas between them, of each the word of its kind, and behind it a name, numbers of
// types, fields with ":" and arms with "|". For example "int, ref 2, adt Node value:0 next:1 | Dot | Label text:0".
func table(text string) []api.Type {
	var l []api.Type
	if text == "" {
		return nil
	}
	for _, part := range strings.Split(text, ",") {
		l = append(l, oneType(strings.Fields(part)))
	}
	return l
}

func oneType(words []string) api.Type {
	word, name, _ := strings.Cut(words[0], ".")
	x := api.Type{Kind: slices.Index(kindWords, word), Name: name}
	fields := &x.Fields
	for i := 1; i < len(words); i++ {
		word, number, isField := strings.Cut(words[i], ":")
		t, err := strconv.Atoi(word)
		switch {
		case isField:
			t, _ = strconv.Atoi(number)
			*fields = append(*fields, api.Field{Name: word, Type: t})
		case word == "|":
			i++
			x.Arms = append(x.Arms, api.PArm{Name: words[i]})
			fields = &x.Arms[len(x.Arms)-1].Fields
		case err == nil:
			x.Elems = append(x.Elems, t)
		default:
			x.Name = word
		}
	}
	return x
}

// show writes a table as table reads it.
func show(l []api.Type) string {
	var all []string
	for _, x := range l {
		s := strconv.Itoa(x.Kind)
		if x.Kind >= 0 && x.Kind < len(kindWords) {
			s = kindWords[x.Kind]
		}
		if x.Kind == api.TRef && x.Name != "" {
			s += "." + x.Name
		} else if x.Name != "" {
			s += " " + x.Name
		}
		for _, t := range x.Elems {
			s += " " + strconv.Itoa(t)
		}
		s += showFields(x.Fields)
		for _, arm := range x.Arms {
			s += " | " + arm.Name + showFields(arm.Fields)
		}
		all = append(all, s)
	}
	return strings.Join(all, ", ")
}

func showFields(l []api.Field) string {
	s := ""
	for _, f := range l {
		s += " " + f.Name + ":" + strconv.Itoa(f.Type)
	}
	return s
}

// clone copies a table.
func clone(l []api.Type) []api.Type {
	l = slices.Clone(l)
	for i, x := range l {
		x.Elems, x.Fields, x.Arms = slices.Clone(x.Elems), slices.Clone(x.Fields), slices.Clone(x.Arms)
		for k, arm := range x.Arms {
			x.Arms[k].Fields = slices.Clone(arm.Fields)
		}
		l[i] = x
	}
	return l
}

// same reports whether two tables have the same contents.
func same(l, m []api.Type) bool { return show(l) == show(m) }

// movedBy returns a table whose types are moved behind so many others.
func movedBy(l []api.Type, n int) []api.Type {
	l = clone(l)
	for i := range l {
		for t := range partsOf(&l[i]) {
			*t += n
		}
	}
	return l
}

// partsOf returns places of the parts of a type.
func partsOf(x *api.Type) func(func(*int) bool) {
	var l []*int
	for i := range x.Elems {
		l = append(l, &x.Elems[i])
	}
	for i := range x.Fields {
		l = append(l, &x.Fields[i].Type)
	}
	for _, arm := range x.Arms {
		for i := range arm.Fields {
			l = append(l, &arm.Fields[i].Type)
		}
	}
	return slices.Values(l)
}

// fields returns n fields of a type.
func fields(n, t int) []api.Field {
	var l []api.Field
	for i := range n {
		l = append(l, api.Field{Name: "f" + strconv.Itoa(i), Type: t})
	}
	return l
}

// elems returns a type n times.
func elems(n, t int) []int { return slices.Repeat([]int{t}, n) }

// layout returns a layout of a right table.
func layout(t *testing.T, l []api.Type) *types.Layout {
	t.Helper()
	x, e := types.NewLayout(l)
	if x == nil || e != api.OK {
		t.Fatalf("NewLayout of %s: %v", show(l), e)
	}
	return x
}

// showSlots writes slots: of each the first letter of its kind, and its descriptor, if that is not 0.
func showSlots(l []api.Slot) string {
	var all []string
	for _, s := range l {
		word := strings.Fields("num str arr list chan rec mod")[s.Kind]
		if s.Desc != 0 {
			word += strconv.Itoa(s.Desc)
		}
		all = append(all, word)
	}
	return strings.Join(all, " ")
}

// showDescs writes all descriptors.
func showDescs(l []api.Desc) string {
	var all []string
	for _, d := range l {
		all = append(all, showSlots(d.Slots))
	}
	return strings.Join(all, ", ")
}

// dice is a sequence of numbers that is the same in each run.
type dice uint64

func (d *dice) below(n int) int {
	*d = *d*6364136223846793005 + 1442695040888963407
	return int(uint64(*d) >> 33 % uint64(n))
}

func (d *dice) chance(n int) bool { return d.below(n) == 0 }

func oneOf[T any](d *dice, l ...T) T { return l[d.below(len(l))] }
