package people

import (
	"cmp"
	"maps"
	"slices"

	"restante/api"
)

// Persons returns the persons who have a name on any days, in ascending order.
func Persons(l []api.Entry) []int {
	persons := map[int]bool{}
	for _, x := range l {
		if x.Kind == api.EntryName {
			persons[x.Person] = true
		}
	}
	return slices.Sorted(maps.Keys(persons))
}

// Names returns the names of a person, in ascending order.
func Names(l []api.Entry, person, day int) []string { return on(l, day).names(person) }

func (d directory) names(person int) []string {
	names := map[string]bool{}
	for x := range d.each(api.EntryName) {
		if x.Person == person {
			names[x.Name] = true
		}
	}
	return slices.Sorted(maps.Keys(names))
}

// Called returns the persons who have a name, in ascending order.
func Called(l []api.Entry, name string, day int) []int {
	persons := map[int]bool{}
	for x := range on(l, day).each(api.EntryName) {
		if x.Name == name {
			persons[x.Person] = true
		}
	}
	return slices.Sorted(maps.Keys(persons))
}

// Dead reports whether a person is dead.
func Dead(l []api.Entry, person, day int) bool { return on(l, day).dead[person] }

// Places returns the places where a person lives, in ascending order.
func Places(l []api.Entry, person, day int) []int { return on(l, day).places(person) }

func (d directory) places(person int) []int {
	var places []int
	for _, c := range d.pairs(func(c api.Candidate) bool { return c.Person == person }) {
		places = append(places, c.Place)
	}
	return places
}

// Lives reports whether a person lives at a place.
func Lives(l []api.Entry, c api.Candidate, day int) bool { return on(l, day).lives(c) }

func (d directory) lives(at api.Candidate) bool {
	return len(d.pairs(func(c api.Candidate) bool { return c == at })) > 0
}

// Dwellers returns the persons who live at a place, in ascending order.
func Dwellers(l []api.Entry, place, day int) []int {
	var persons []int
	for _, c := range on(l, day).pairs(func(c api.Candidate) bool { return c.Place == place }) {
		persons = append(persons, c.Person)
	}
	return persons
}

// Pairs returns all pairs of a person and a place where the person lives, in ascending order.
func Pairs(l []api.Entry, day int) []api.Candidate {
	return on(l, day).pairs(func(api.Candidate) bool { return true })
}

// pairs returns the pairs, of those that are wanted, whose person lives at the place, in ascending order.
func (d directory) pairs(wanted func(api.Candidate) bool) []api.Candidate {
	pairs := map[api.Candidate]bool{}
	for x := range d.each(api.EntryLive) {
		c := api.Candidate{Person: x.Person, Place: x.Place}
		if wanted(c) && !d.dead[c.Person] {
			pairs[c] = true
		}
	}
	return sortedPairs(pairs)
}

func sortedPairs(pairs map[api.Candidate]bool) []api.Candidate {
	return slices.SortedFunc(maps.Keys(pairs), comparePairs)
}

func comparePairs(a, b api.Candidate) int {
	return cmp.Or(cmp.Compare(a.Person, b.Person), cmp.Compare(a.Place, b.Place))
}

// Home returns the home of a person, and whether there is one.
func Home(l []api.Entry, person, day int) (int, bool) { return on(l, day).home(person) }

// Heir returns the heir of a person, and whether there is one.
func Heir(l []api.Entry, person, day int) (int, bool) { return on(l, day).heir(person) }

// Changes returns the days on which anything of a person but orders and refusals changes, in ascending order.
func Changes(l []api.Entry, person int) []int {
	var days []int
	for _, day := range turns(l, person) {
		before, after := on(l, day-1), on(l, day)
		if !before.lookAt(person).is(after.lookAt(person)) {
			days = append(days, day)
		}
	}
	return days
}

// turns returns the days on which entries of a person begin to hold or cease to, in ascending order.
func turns(l []api.Entry, person int) []int {
	days := map[int]bool{}
	for _, x := range l {
		f := factOf(x)
		for _, day := range f.bounds() {
			if f.Person == person && isDay(day) {
				days[day] = true
			}
		}
	}
	return slices.Sorted(maps.Keys(days))
}

// look is what Changes compares of a person.
type look struct {
	names      []string
	places     []int
	dead       bool
	home, heir int
	// whether there is a home, and whether there is an heir
	housed, succeeded bool
}

func (d directory) lookAt(person int) look {
	s := look{names: d.names(person), places: d.places(person), dead: d.dead[person]}
	s.home, s.housed = d.home(person)
	s.heir, s.succeeded = d.heir(person)
	return s
}

func (s look) is(t look) bool {
	return slices.Equal(s.names, t.names) && slices.Equal(s.places, t.places) && s.dead == t.dead &&
		s.home == t.home && s.housed == t.housed && s.heir == t.heir && s.succeeded == t.succeeded
}
