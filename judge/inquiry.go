package judge

import (
	"slices"

	"restante/api"
	"restante/people"
	"restante/places"
	"restante/reading"
	"restante/seals"
)

// inquiry is a valid case, and what was found out of it so far. The automata of names and of pieces that were shown have numbers, so that each two of them have to be held against each other only once.
type inquiry struct {
	c       api.Case // its books are the known ones
	g       *places.Gazetteer
	looks   []api.Look // of the thing
	autos   []api.Auto // by their numbers
	spelled map[string]int
	worn    map[api.Look]int
	called  map[naming][]int
	met     map[[2]int]meeting
	apart   map[parting]bool
}

// naming is a pair, and the kind for which its names are asked.
type naming struct {
	kind uint8
	who  api.Candidate
}

// meeting is the first one of the cheapest strings that two automata accept, if there is one.
type meeting struct {
	api.Reading
	is bool
}

// parting is the question whether two pairs are apart for a kind.
type parting struct {
	kind uint8
	x, y api.Candidate
}

// inquire returns the inquiry of a case, or the error of one that is not valid.
func inquire(c api.Case) (*inquiry, api.Errno) {
	if !validNumbers(c) {
		return nil, api.ErrArg
	}
	if e := seals.CheckThing(c.Thing); e != api.OK {
		return nil, e
	}
	q := &inquiry{c: c, looks: Looks(c.Thing), spelled: map[string]int{}, worn: map[api.Look]int{},
		called: map[naming][]int{}, met: map[[2]int]meeting{}, apart: map[parting]bool{}}
	if !q.validLooks() {
		return nil, api.ErrArg
	}
	q.c.Books = Known(c.Books, c.Day)
	for _, read := range []func() api.Errno{q.openBooks, q.spellNames, q.readPieces} {
		if e := read(); e != api.OK {
			return nil, e
		}
	}
	return q, api.OK
}

// inquireAs does what inquire does for a function that takes a role.
func inquireAs(c api.Case, role int) (*inquiry, api.Errno) {
	q, e := inquire(c)
	if e != api.OK {
		return nil, e
	}
	if role != api.RoleTo && role != api.RoleFrom {
		return nil, api.ErrArg
	}
	return q, api.OK
}

// inquireOf does what inquire does for a function that takes a kind.
func inquireOf(c api.Case, kind uint8) (*inquiry, api.Errno) {
	q, e := inquire(c)
	if e != api.OK {
		return nil, e
	}
	if Role(kind) == 0 {
		return nil, api.ErrArg
	}
	return q, api.OK
}

func validNumbers(c api.Case) bool {
	for _, weight := range c.Weights {
		if !within(weight, 0, api.MaxWeight) {
			return false
		}
	}
	return within(c.Day, 0, api.MaxDay) && within(c.Thing.Day, 0, c.Day) && within(c.Opened, 0, api.MaxLayers)
}

// validLooks reports whether the looks and the depth of a case are such as a room may have.
func (q *inquiry) validLooks() bool {
	if q.c.Opened > len(q.c.Thing.Layers) || !q.isSet(q.c.Made) || !q.isSet(q.c.May) {
		return false
	}
	depth := 0
	for _, l := range q.c.Made {
		if slices.Contains(q.c.May, l) {
			return false
		}
		depth = max(depth, l.Layer)
	}
	return depth == q.c.Opened
}

// isSet reports whether a list is a set of looks of the thing.
func (q *inquiry) isSet(looks []api.Look) bool {
	for _, l := range looks {
		if !slices.Contains(q.looks, l) {
			return false
		}
	}
	return ascends(looks, compareLooks)
}

func (q *inquiry) openBooks() api.Errno {
	g, _, e := places.Open(q.c.Books.Places)
	if e != api.OK {
		return e
	}
	q.g = g
	if e := places.CheckSpells(q.c.Books.Spells); e != api.OK {
		return e
	}
	_, e = people.Check(q.c.Books.People)
	return e
}

// spellNames finds the spellings of all names of the books.
func (q *inquiry) spellNames() api.Errno {
	for _, x := range q.c.Books.People {
		if x.Kind != api.EntryName {
			continue
		}
		if e := q.spell(x.Name); e != api.OK {
			return e
		}
	}
	for _, x := range q.c.Books.Places {
		if x.Name == "" {
			continue
		}
		if e := q.spell(x.Name); e != api.OK {
			return e
		}
	}
	return api.OK
}

func (q *inquiry) spell(name string) api.Errno {
	if _, known := q.spelled[name]; known {
		return api.OK
	}
	a, e := places.Spelled(name, q.c.Books.Spells)
	if e != api.OK {
		return e
	}
	q.spelled[name] = len(q.autos)
	q.autos = append(q.autos, a)
	return api.OK
}

// readPieces finds what the pieces that were shown may say.
func (q *inquiry) readPieces() api.Errno {
	for _, l := range q.c.Made {
		a, e := reading.Of(q.pieceAt(l).Cells)
		if e != api.OK {
			return e
		}
		q.worn[l] = len(q.autos)
		q.autos = append(q.autos, a)
	}
	return api.OK
}

// pieceAt returns the piece of a look of the thing. Only its Kind may matter if the look was not made.
func (q *inquiry) pieceAt(l api.Look) api.Piece { return q.c.Thing.Layers[l.Layer-1].Pieces[l.Piece] }

// having returns those of some looks of the thing that have a role.
func (q *inquiry) having(looks []api.Look, role int) []api.Look {
	return slices.DeleteFunc(slices.Clone(looks), func(l api.Look) bool { return Role(q.pieceAt(l).Kind) != role })
}
