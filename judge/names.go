package judge

import (
	"slices"

	"restante/api"
	"restante/people"
	"restante/reading"
)

// Names returns the names of a pair for a kind, in ascending order.
func Names(c api.Case, kind uint8, who api.Candidate) ([]string, api.Errno) {
	q, e := inquireOf(c, kind)
	if e != api.OK {
		return nil, e
	}
	return q.names(kind, who), api.OK
}

func (q *inquiry) names(kind uint8, who api.Candidate) []string {
	day := q.c.Thing.Day
	switch kind {
	case api.PieceToName, api.PieceFromName:
		return people.Names(q.c.Books.People, who.Person, day)
	case api.PieceToPlace, api.PieceFromPlace:
		return q.g.Names(who.Place, day)
	}
	var names []string
	for _, around := range q.g.Path(who.Place, day) {
		names = append(names, q.g.Names(around, day)...)
	}
	slices.Sort(names)
	return slices.Compact(names)
}

// spellings returns the numbers of the automata of the names of a pair for a kind.
func (q *inquiry) spellings(kind uint8, who api.Candidate) []int {
	key := naming{kind, who}
	numbers, known := q.called[key]
	if !known {
		for _, name := range q.names(kind, who) {
			numbers = append(numbers, q.spelled[name])
		}
		q.called[key] = numbers
	}
	return numbers
}

// meet returns the first one of the cheapest strings that two automata accept, if there is one.
func (q *inquiry) meet(a, b int) meeting {
	key := [2]int{min(a, b), max(a, b)}
	m, known := q.met[key]
	if !known {
		// All automata are valid.
		m.Reading, m.is, _ = reading.Meet(q.autos[a], q.autos[b])
		q.met[key] = m
	}
	return m
}

// cheapest returns the first one of the cheapest strings that an automaton of x and one of y accept, if there is one.
func (q *inquiry) cheapest(x, y []int) meeting {
	var best meeting
	for _, a := range x {
		for _, b := range y {
			m := q.meet(a, b)
			if m.is && (!best.is || compareReadings(m.Reading, best.Reading) < 0) {
				best = m
			}
		}
	}
	return best
}

// Fits returns the cost with which a pair fits a look that was made, and whether it does.
func Fits(c api.Case, who api.Candidate, l api.Look) (int, bool, api.Errno) {
	q, e := inquire(c)
	if e != api.OK {
		return 0, false, e
	}
	if !slices.Contains(c.Made, l) {
		return 0, false, api.ErrNone
	}
	cost, fits := q.fits(who, l)
	return cost, fits, api.OK
}

func (q *inquiry) fits(who api.Candidate, l api.Look) (int, bool) {
	m := q.cheapest([]int{q.worn[l]}, q.spellings(q.pieceAt(l).Kind, who))
	return m.Cost, m.is
}

// Common returns the first one of the cheapest spellings that two pairs have in common for a kind, if there is one.
func Common(c api.Case, kind uint8, x, y api.Candidate) (api.Reading, bool, api.Errno) {
	q, e := inquireOf(c, kind)
	if e != api.OK {
		return api.Reading{}, false, e
	}
	m := q.cheapest(q.spellings(kind, x), q.spellings(kind, y))
	return m.Reading, m.is, api.OK
}

// Apart reports whether two pairs have no spelling in common for a kind.
func Apart(c api.Case, kind uint8, x, y api.Candidate) (bool, api.Errno) {
	q, e := inquireOf(c, kind)
	if e != api.OK {
		return false, e
	}
	return q.areApart(kind, x, y), api.OK
}

func (q *inquiry) areApart(kind uint8, x, y api.Candidate) bool {
	key := parting{kind, x, y}
	apart, known := q.apart[key]
	if !known {
		apart = !q.overlap(q.spellings(kind, x), q.spellings(kind, y))
		q.apart[key] = apart
	}
	return apart
}

// overlap reports whether an automaton of x and one of y, all of which are automata of names, accept a common string.
func (q *inquiry) overlap(x, y []int) bool {
	// Places of one region have names in common, which is seen at once.
	for _, a := range x {
		if slices.Contains(y, a) {
			return true
		}
	}
	for _, a := range x {
		for _, b := range y {
			if q.meet(a, b).is {
				return true
			}
		}
	}
	return false
}
