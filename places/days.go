package places

import (
	"slices"

	"restante/api"
)

// days returns a function that returns the state on a day, for days that do not decrease from call to call.
func (g *Gazetteer) days() func(day int) tree {
	t := tree{}
	next := 0
	return func(day int) tree {
		for next < len(g.events) && g.events[next].Day <= day {
			t.apply(g.events[next])
			next++
		}
		return t
	}
}

// on returns the state on a day.
func (g *Gazetteer) on(day int) tree {
	if g == nil || day > api.MaxDay {
		return tree{}
	}
	return g.days()(day)
}

// Exists reports whether a place exists on a day.
func (g *Gazetteer) Exists(place, day int) bool { return g.on(day).exists(place) }

// All returns all places that exist on a day, in ascending order.
func (g *Gazetteer) All(day int) []int { return g.on(day).all() }

// Name returns the last true name of a place.
func (g *Gazetteer) Name(place, day int) string {
	t := g.on(day)
	if !t.exists(place) {
		return ""
	}
	history := t[place].history
	return history[lastTrue(history)].Name
}

// Names returns all names that are in use for a place, in ascending order.
func (g *Gazetteer) Names(place, day int) []string { return g.on(day).names(place, day) }

// History returns all uses of names of a place, in order.
func (g *Gazetteer) History(place int) []api.NameUse {
	s := g.on(api.MaxDay)[place]
	if s == nil {
		return nil
	}
	return s.history
}

// Parent returns the place directly around a place; 0 if there is none.
func (g *Gazetteer) Parent(place, day int) int {
	t := g.on(day)
	if !t.exists(place) {
		return 0
	}
	return t[place].parent
}

// Path returns the parent of a place, its parent, and so on up to the root.
func (g *Gazetteer) Path(place, day int) []int { return g.on(day).path(place) }

// Inside returns all places that a place contains, in ascending order.
func (g *Gazetteer) Inside(place, day int) []int { return g.on(day).inside(place) }

// Common returns the deepest place that contains two places; 0 if there is none.
func (g *Gazetteer) Common(a, b, day int) int {
	t := g.on(day)
	if t.contains(a, b) {
		return a
	}
	for _, around := range t.path(a) { // from the deepest one on
		if t.contains(around, b) {
			return around
		}
	}
	return 0
}

// GoesOn returns the place that exists on a day and in which a place goes on.
func (g *Gazetteer) GoesOn(place, day int) int {
	t := g.on(day)
	if t[place] == nil {
		return 0
	}
	for t[place].ceased {
		place = t[place].goesOn
	}
	return place
}

// Called returns all places for which a name is in use, in ascending order.
func (g *Gazetteer) Called(name string, day int) []int {
	t := g.on(day)
	return slices.DeleteFunc(t.all(), func(place int) bool {
		return !slices.Contains(t.names(place, day), name)
	})
}

// Changes returns the days on which it changes whether a place exists, its names, or its path.
func (g *Gazetteer) Changes(place int) []int {
	var days []int
	on := g.days()
	for _, day := range g.turns(place) {
		before := lookOf(on(day-1), place, day-1)
		if !before.is(lookOf(on(day), place, day)) {
			days = append(days, day)
		}
	}
	return days
}

// turns returns the days on which something of a place may change, in ascending order.
func (g *Gazetteer) turns(place int) []int {
	days := map[int]bool{}
	for _, e := range g.Events() {
		days[e.Day] = true
	}
	// A use that ends without an event ends on the day that the whole history says: later events end only what is still in use.
	for _, use := range g.History(place) {
		if use.Until <= api.MaxDay {
			days[use.Until] = true
		}
	}
	return sorted(days)
}

// look is what Changes compares of a place.
type look struct {
	exists bool
	names  []string
	path   []int
}

func lookOf(t tree, place, day int) look {
	return look{exists: t.exists(place), names: t.names(place, day), path: t.path(place)}
}

func (l look) is(m look) bool {
	return l.exists == m.exists && slices.Equal(l.names, m.names) && slices.Equal(l.path, m.path)
}
