package places

import (
	"slices"

	"restante/api"
)

// inherited returns the names that a place gets from one that merges into it.
func (t tree) inherited(from, to, day int) []string {
	return slices.DeleteFunc(t.names(from, day), func(name string) bool {
		return isOpen(t[to].history, name, api.NameAlias)
	})
}

// refuses returns the error of a well-formed event that is not earlier than those before it.
func (t tree) refuses(e api.PlaceEvent) api.Errno {
	if f := t.refusesPlaces(e); f != api.OK {
		return f
	}
	if (e.Kind == api.PlaceMove || e.Kind == api.PlaceMerge) && t.contains(e.Place, e.Other) {
		return api.ErrLoop
	}
	if t.deepest(e) > api.MaxDepth {
		return api.ErrDeep
	}
	return t.refusesNames(e)
}

// refusesPlaces returns the error of places of an event that do not exist, or exist already.
func (t tree) refusesPlaces(e api.PlaceEvent) api.Errno {
	if e.Kind == api.PlaceFound {
		if t[e.Place] != nil {
			return api.ErrTwice
		}
	} else if f := t.missing(e.Place); f != api.OK {
		return f
	}
	if e.Other != 0 {
		return t.missing(e.Other)
	}
	return api.OK
}

// missing returns the error of a place that does not exist.
func (t tree) missing(place int) api.Errno {
	if t[place] == nil {
		return api.ErrNone
	}
	if t[place].ceased {
		return api.ErrGone
	}
	return api.OK
}

// deepest returns the greatest level of the places that an event puts somewhere else.
func (t tree) deepest(e api.PlaceEvent) int {
	switch e.Kind {
	case api.PlaceFound:
		return t.level(e.Other) + 1
	case api.PlaceMove:
		return t.level(e.Other) + 1 + t.height(e.Place)
	case api.PlaceMerge:
		return t.level(e.Other) + t.height(e.Place)
	}
	return 0
}

// refusesNames returns the error of names that an event would add to a history.
func (t tree) refusesNames(e api.PlaceEvent) api.Errno {
	switch e.Kind {
	case api.PlaceRename:
		history := t[e.Place].history
		if history[lastTrue(history)].Name == e.Name {
			return api.ErrTwice
		}
		return checkCount(history, 1)
	case api.PlaceAlias:
		history := t[e.Place].history
		if isOpen(history, e.Name, api.NameTrue, api.NameAlias) {
			return api.ErrTwice
		}
		return checkCount(history, 1)
	case api.PlaceMerge:
		return checkCount(t[e.Other].history, len(t.inherited(e.Place, e.Other, e.Day)))
	}
	return api.OK
}

// checkCount returns the error of adding some uses to a history.
func checkCount(history []api.NameUse, more int) api.Errno {
	if len(history)+more > api.MaxNames {
		return api.ErrLimit
	}
	return api.OK
}

// apply changes the state by an event that it does not refuse.
func (t tree) apply(e api.PlaceEvent) {
	switch e.Kind {
	case api.PlaceFound:
		t[e.Place] = &site{parent: e.Other}
		t[e.Place].use(e.Name, api.NameTrue, e.Day)
	case api.PlaceRename:
		s := t[e.Place]
		s.history[lastTrue(s.history)].Until = min(e.Day+api.MemoryDays, endless)
		s.use(e.Name, api.NameTrue, e.Day)
	case api.PlaceMove:
		t[e.Place].parent = e.Other
	case api.PlaceMerge:
		t.merge(e.Place, e.Other, e.Day)
	case api.PlaceAlias:
		t[e.Place].use(e.Name, api.NameAlias, e.Day)
	}
}

// use adds an open use to the history.
func (s *site) use(name string, kind uint8, day int) {
	s.history = append(s.history, api.NameUse{Name: name, Kind: kind, From: day, Until: endless})
}

// merge ends a place, which goes on in another one.
func (t tree) merge(from, to, day int) {
	for _, name := range t.inherited(from, to, day) {
		t[to].use(name, api.NameAlias, day)
	}
	for _, s := range t {
		if s.parent == from {
			s.parent = to
		}
	}
	s := t[from]
	for i := range s.history {
		s.history[i].Until = min(s.history[i].Until, day)
	}
	s.ceased, s.goesOn, s.parent = true, to, 0
}
