package places

import (
	"cmp"
	"maps"
	"slices"

	"restante/api"
)

// endless is the Until of the uses that are open.
const endless = api.MaxDay + 1

// site is a place that was founded.
type site struct {
	ceased  bool
	parent  int // of a place that exists; 0 if it is a root
	goesOn  int // the place in which one that has ceased goes on
	history []api.NameUse
}

// tree is the state after some events: the places that were founded.
type tree map[int]*site

// sorted returns the keys of a map in ascending order.
func sorted[K cmp.Ordered, V any](m map[K]V) []K {
	return slices.Sorted(maps.Keys(m))
}

func (t tree) exists(place int) bool {
	s := t[place]
	return s != nil && !s.ceased
}

// all returns the places that exist, in ascending order.
func (t tree) all() []int {
	return slices.DeleteFunc(sorted(t), func(place int) bool { return !t.exists(place) })
}

// path returns the parent of a place, its parent, and so on.
func (t tree) path(place int) []int {
	if !t.exists(place) {
		return nil
	}
	var list []int
	for around := t[place].parent; around != 0; around = t[around].parent {
		list = append(list, around)
	}
	return list
}

// level returns the level of a place; that of 0, which stands for what is around the roots, is 0.
func (t tree) level(place int) int {
	if place == 0 {
		return 0
	}
	return 1 + len(t.path(place))
}

func (t tree) contains(a, b int) bool {
	return t.exists(a) && t.exists(b) && (a == b || slices.Contains(t.path(b), a))
}

// inside returns the places that a place contains, in ascending order.
func (t tree) inside(place int) []int {
	return slices.DeleteFunc(sorted(t), func(p int) bool { return !t.contains(place, p) })
}

// height returns how many levels there are below a place.
func (t tree) height(place int) int {
	deepest := 0
	for _, p := range t.inside(place) {
		deepest = max(deepest, t.level(p))
	}
	return deepest - t.level(place)
}

// namesIn returns the names that are in use on a day, in ascending order.
func namesIn(history []api.NameUse, day int) []string {
	names := map[string]bool{}
	for _, use := range history {
		if use.From <= day && day < use.Until {
			names[use.Name] = true
		}
	}
	return sorted(names)
}

// names returns the names that are in use on a day for a place that exists.
func (t tree) names(place, day int) []string {
	if !t.exists(place) {
		return nil
	}
	return namesIn(t[place].history, day)
}

// lastTrue returns the index of the last use of a true name; every history has one.
func lastTrue(history []api.NameUse) int {
	i := len(history) - 1
	for i > 0 && history[i].Kind != api.NameTrue {
		i--
	}
	return i
}

// isOpen reports whether a history has an open use of a name that is of one of some kinds.
func isOpen(history []api.NameUse, name string, kinds ...uint8) bool {
	return slices.ContainsFunc(history, func(use api.NameUse) bool {
		return use.Name == name && use.Until == endless && slices.Contains(kinds, use.Kind)
	})
}
