package drawers

import (
	"slices"

	"restante/api"
)

// never is the Due of lots that are never due.
const never = api.MaxDay + 1

// unit is a unit and its values, of which each one holds from its day on; their days ascend.
type unit struct {
	name   string
	kind   uint8
	values []value
}

type value struct{ day, grains int }

// term says that lots of at least so many units that are deposited from the day on are due so many days later.
type term struct {
	unit             string
	day, least, days int
}

// unit returns the unit of a name; nil if there is none.
func (s *state) unit(name string) *unit {
	for i := range s.units {
		if s.units[i].name == name {
			return &s.units[i]
		}
	}
	return nil
}

// SetUnit adds a unit.
func (l *Ledger) SetUnit(day int, name string, kind uint8) api.Errno {
	return l.change(day, func(s *state) api.Errno {
		switch {
		case !isUnitName(name):
			return api.ErrForm
		case kind < api.UnitCoin || kind > api.UnitGood:
			return api.ErrArg
		case s.unit(name) != nil:
			return api.ErrTwice
		case len(s.units) >= api.MaxUnits:
			return api.ErrLimit
		}
		s.units = append(s.units, unit{name: name, kind: kind})
		return api.OK
	})
}

// SetValue says how many grains one unit is worth from the day on.
func (l *Ledger) SetValue(day int, name string, grains int) api.Errno {
	return l.change(day, func(s *state) api.Errno {
		u := s.unit(name)
		if u == nil || u.kind == api.UnitGood {
			return api.ErrUnit
		}
		if !within(grains, 1, api.MaxValue) {
			return api.ErrArg
		}
		if n := len(u.values); n > 0 && u.values[n-1].day == day {
			// Until this draft is kept, the value that is replaced belongs to the ledger.
			u.values = slices.Clone(u.values[:n-1])
		}
		u.values = append(u.values, value{day: day, grains: grains})
		return api.OK
	})
}

// Value returns how many grains one unit is worth on a day; 0 if it has no value.
func (l *Ledger) Value(name string, day int) int {
	s := l.books()
	return s.value(name, day)
}

func (s *state) value(name string, day int) int {
	u := s.unit(name)
	if u == nil {
		return 0
	}
	later, _ := slices.BinarySearchFunc(u.values, day, func(v value, day int) int {
		if v.day <= day {
			return -1
		}
		return 1
	})
	if later == 0 {
		return 0
	}
	return u.values[later-1].grains
}

// SetTerm sets a term.
func (l *Ledger) SetTerm(day int, name string, least, days int) api.Errno {
	return l.change(day, func(s *state) api.Errno {
		switch {
		case s.unit(name) == nil:
			return api.ErrUnit
		case !within(least, 1, api.MaxN) || !within(days, 1, api.MaxTerm):
			return api.ErrArg
		case len(s.terms) >= api.MaxTerms:
			return api.ErrLimit
		}
		s.terms = append(s.terms, term{unit: name, day: day, least: least, days: days})
		return api.OK
	})
}

// Term returns the days of the term that is in force for n units on a day; 0 if there is none.
func (l *Ledger) Term(name string, n, day int) int {
	s := l.books()
	return s.term(name, n, day)
}

func (s *state) term(name string, n, day int) int {
	inForce := term{}
	for _, t := range s.terms { // in the order in which they were set
		if t.unit == name && t.day <= day && t.least <= n && t.least >= inForce.least {
			inForce = t
		}
	}
	return inForce.days
}

// dueOf returns the Due of n units that are deposited on the day of the ledger.
func (s *state) dueOf(name string, n int) int {
	days := s.term(name, n, s.day)
	if days == 0 {
		return never
	}
	return min(s.day+days, never)
}
