package places

import (
	"cmp"
	"slices"

	"restante/api"
	"restante/reading"
)

// rawsOf returns the raw automata of names; ErrLimit if one of the names has too many matches.
func rawsOf(names []string, l []api.Spell) ([]api.Auto, api.Errno) {
	var list []api.Auto
	for _, name := range names {
		if isCrowded(name, l) {
			return nil, api.ErrLimit
		}
		list = append(list, raw(name, l))
	}
	return list, api.OK
}

// areApart reports whether no string is accepted both by one of some automata and by one of some others.
func areApart(x, y []api.Auto) bool {
	for _, a := range x {
		for _, b := range y {
			if _, meet, _ := reading.Meet(a, b); meet {
				return false
			}
		}
	}
	return true
}

// Apart reports whether no string is a spelling both of a name of a and of a name of b.
func Apart(a, b []string, l []api.Spell) (bool, api.Errno) {
	if len(a) > api.MaxNames || len(b) > api.MaxNames {
		return false, api.ErrLimit
	}
	for _, name := range slices.Concat(a, b) {
		if !reading.IsName(name) {
			return false, api.ErrForm
		}
	}
	if e := CheckSpells(l); e != api.OK {
		return false, e
	}
	x, e := rawsOf(a, l)
	if e != api.OK {
		return false, e
	}
	y, e := rawsOf(b, l)
	if e != api.OK {
		return false, e
	}
	return areApart(x, y), api.OK
}

// checkMatching returns the common errors of the functions that match an automaton.
func (g *Gazetteer) checkMatching(a api.Auto, l []api.Spell) api.Errno {
	if g == nil {
		return api.ErrNil
	}
	if e := reading.Check(a); e != api.OK {
		return e
	}
	return CheckSpells(l)
}

// fits returns the least cost for which an automaton fits a name that is in use for a place.
func (t tree) fits(place, day int, a api.Auto, l []api.Spell) (int, bool, api.Errno) {
	raws, e := rawsOf(t.names(place, day), l)
	if e != api.OK {
		return 0, false, e
	}
	least := never
	for _, b := range raws {
		if r, meet, _ := reading.Meet(a, b); meet {
			least = min(least, r.Cost)
		}
	}
	if least == never {
		return 0, false, api.OK
	}
	return least, true, api.OK
}

// matches returns those of some places that an automaton fits, by cost, and those of equal cost by place.
func (t tree) matches(places []int, day int, a api.Auto, l []api.Spell) ([]api.PlaceMatch, api.Errno) {
	var list []api.PlaceMatch
	for _, place := range places {
		cost, fits, e := t.fits(place, day, a, l)
		if e != api.OK {
			return nil, e
		}
		if fits {
			list = append(list, api.PlaceMatch{Place: place, Cost: cost})
		}
	}
	slices.SortFunc(list, func(p, q api.PlaceMatch) int {
		return cmp.Or(cmp.Compare(p.Cost, q.Cost), cmp.Compare(p.Place, q.Place))
	})
	return list, api.OK
}

// Fits returns the least cost for which an automaton fits a name of a place.
func (g *Gazetteer) Fits(place, day int, a api.Auto, l []api.Spell) (int, bool, api.Errno) {
	if e := g.checkMatching(a, l); e != api.OK {
		return 0, false, e
	}
	return g.on(day).fits(place, day, a, l)
}

// FitsRegion returns the place around a place that an automaton fits best.
func (g *Gazetteer) FitsRegion(place, day int, a api.Auto, l []api.Spell) (api.PlaceMatch, bool, api.Errno) {
	if e := g.checkMatching(a, l); e != api.OK {
		return api.PlaceMatch{}, false, e
	}
	t := g.on(day)
	list, e := t.matches(t.path(place), day, a, l)
	if e != api.OK || len(list) == 0 {
		return api.PlaceMatch{}, false, e
	}
	return list[0], true, api.OK
}

// Find returns all places in a region, or anywhere, that an automaton fits for a cost of at most most.
func (g *Gazetteer) Find(day, region int, a api.Auto, l []api.Spell, most int) ([]api.PlaceMatch, api.Errno) {
	if e := g.checkMatching(a, l); e != api.OK {
		return nil, e
	}
	t := g.on(day)
	among := t.all()
	if region != 0 {
		if !t.exists(region) {
			return nil, api.ErrNone
		}
		among = t.inside(region)
	}
	list, e := t.matches(among, day, a, l)
	return slices.DeleteFunc(list, func(m api.PlaceMatch) bool { return m.Cost > most }), e
}

// Twins returns the other places whose names are not apart from those of a place.
func (g *Gazetteer) Twins(place, day int, l []api.Spell) ([]int, api.Errno) {
	if g == nil {
		return nil, api.ErrNil
	}
	if e := CheckSpells(l); e != api.OK {
		return nil, e
	}
	t := g.on(day)
	if !t.exists(place) {
		return nil, api.ErrNone
	}
	own, e := rawsOf(t.names(place, day), l)
	if e != api.OK {
		return nil, e
	}
	var twins []int
	for _, other := range t.all() {
		theirs, e := rawsOf(t.names(other, day), l)
		if e != api.OK {
			return nil, e
		}
		if other != place && !areApart(own, theirs) {
			twins = append(twins, other)
		}
	}
	return twins, api.OK
}
