package types

import (
	"strconv"

	"acheron/api"
)

// partition has classes of types that are not told apart yet.
type partition struct {
	class   []int // of each type
	members [][]int
}

// split tells types of a class apart: those with a key where their keys are different, and all of them from those
// without one. It returns the types that are in a new class now. The most of a class stay what they are: so no type
// gets into a new class often.
func (p *partition) split(types []int, key func(t int) string) []int {
	keys := map[int]string{}
	var classes set
	for _, t := range types {
		keys[t] = key(t)
		classes.add(p.class[t])
	}
	var moved []int
	for _, c := range classes.list {
		groups := p.groups(c, keys)
		most := 0
		for i, g := range groups {
			if len(g) > len(groups[most]) {
				most = i
			}
		}
		for i, g := range groups {
			if i != most {
				p.separate(g)
				moved = append(moved, g...)
			}
		}
		p.members[c] = groups[most]
	}
	return moved
}

// groups returns the types of a class, those with the same key, or with none, together.
func (p *partition) groups(c int, keys map[int]string) [][]int {
	var groups [][]int
	index := map[string]int{}
	for _, t := range p.members[c] {
		i, ok := index[keys[t]]
		if !ok {
			i = len(groups)
			index[keys[t]] = i
			groups = append(groups, nil)
		}
		groups[i] = append(groups[i], t)
	}
	return groups
}

// separate puts types into a new class.
func (p *partition) separate(types []int) {
	for _, t := range types {
		p.class[t] = len(p.members)
	}
	p.members = append(p.members, types)
}

// ofParts returns a text that is the same for types whose parts have the same classes.
func (p *partition) ofParts(x api.Type) string {
	var key []byte
	for part := range parts(x) {
		key = strconv.AppendInt(append(key, ' '), int64(p.class[part]), 10)
	}
	return string(key)
}
