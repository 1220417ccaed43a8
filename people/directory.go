package people

import (
	"iter"

	"restante/api"
)

// span is the days from since on, up to but without until, or without end if that is 0.
type span struct{ since, until int }

func (s span) holds(day int) bool { return s.since <= day && (s.until == 0 || day < s.until) }

// bounds returns the only days on which holding may begin or end.
func (s span) bounds() [2]int { return [2]int{s.since, s.until} }

// fact is an entry and the days on which it is true.
type fact struct {
	span
	api.Entry
}

func factOf(x api.Entry) fact { return fact{span{x.Since, x.Until}, x} }

// Holds reports whether an entry holds on a day.
func Holds(x api.Entry, day int) bool { return factOf(x).holds(day) }

// directory is what a list says on a day.
type directory struct {
	list            []api.Entry
	day             int
	dead, cancelled map[int]bool // the persons, and the numbers of the orders
}

func on(l []api.Entry, day int) directory {
	d := directory{list: l, day: day, dead: map[int]bool{}, cancelled: map[int]bool{}}
	for x := range d.each(api.EntryDeath) {
		d.dead[x.Person] = true
	}
	for x := range d.each(api.EntryCancel) {
		d.cancelled[x.Order] = true
	}
	return d
}

// each returns the entries of a kind that hold on the day, in order.
func (d directory) each(kind uint8) iter.Seq[api.Entry] {
	return func(yield func(api.Entry) bool) {
		for i := range d.list {
			if d.list[i].Kind == kind && Holds(d.list[i], d.day) && !yield(d.list[i]) {
				return
			}
		}
	}
}

// home returns the home of a person, and whether there is one.
func (d directory) home(person int) (int, bool) {
	place, found := 0, false
	if d.dead[person] {
		return place, found
	}
	for x := range d.each(api.EntryLive) {
		if x.Person == person {
			place, found = x.Place, true
		}
	}
	return place, found
}

// heir returns the heir of a person, and whether there is one.
func (d directory) heir(person int) (int, bool) {
	heir, found := 0, false
	for x := range d.each(api.EntryHeir) {
		if x.Person == person {
			heir, found = x.Other, true
		}
	}
	return heir, found
}

// reached returns the pair to which a person is reached, and true; the person with the place 0 and false if the person is homeless.
func (d directory) reached(person int) (api.Candidate, bool) {
	home, found := d.home(person)
	return api.Candidate{Person: person, Place: home}, found || d.dead[person]
}
