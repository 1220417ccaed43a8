package people

import (
	"slices"

	"restante/api"
)

// Order returns the order of a pair, and whether there is one.
func Order(l []api.Entry, c api.Candidate, day int) (api.Entry, bool) { return on(l, day).order(c) }

func (d directory) order(c api.Candidate) (api.Entry, bool) {
	var order api.Entry
	found := false
	if d.dead[c.Person] {
		return order, found
	}
	for x := range d.each(api.EntryRedirect) {
		// An order for the place itself goes before a later one for all places.
		if (x.Place != 0 || order.Place == 0) && d.applies(x, c) {
			order, found = x, true
		}
	}
	return order, found
}

// applies reports whether an order that holds applies to a pair whose person is not dead.
func (d directory) applies(x api.Entry, c api.Candidate) bool {
	if x.Person != c.Person || x.Place != 0 && x.Place != c.Place || d.cancelled[x.Order] {
		return false
	}
	to, leads := redirection{x}.target(d)
	return !leads || to != c
}

// Refuses reports whether a person refuses at a place what comes from a sender.
func Refuses(l []api.Entry, c api.Candidate, sender, day int) bool {
	return on(l, day).refuses(c, sender)
}

func (d directory) refuses(c api.Candidate, sender int) bool {
	if d.dead[c.Person] {
		return false
	}
	for x := range d.each(api.EntryRefuse) {
		if x.Person == c.Person && (x.Place == 0 || x.Place == c.Place) && (x.Other == 0 || x.Other == sender) {
			return true
		}
	}
	return false
}

// cause is why a thing goes on from a pair. Its target is a pair and true, or, if it leads to no pair, the homeless person with the place 0 and false.
type cause interface {
	target(d directory) (api.Candidate, bool)
}

type inheritance struct{ heir int }

func (i inheritance) target(d directory) (api.Candidate, bool) { return d.reached(i.heir) }

type redirection struct{ order api.Entry }

func (r redirection) target(d directory) (api.Candidate, bool) {
	if r.order.At != 0 {
		return api.Candidate{Person: r.order.Other, Place: r.order.At}, true
	}
	return d.reached(r.order.Other)
}

// why returns the cause for which a thing goes on from a pair; nil if it does not.
func (d directory) why(c api.Candidate) cause {
	if heir, found := d.heir(c.Person); found && d.dead[c.Person] {
		return inheritance{heir}
	}
	if x, found := d.order(c); found {
		return redirection{x}
	}
	return nil
}

// hop returns the hop of a pair, and whether it leads to a pair; one without a Kind if there is none.
func (d directory) hop(c api.Candidate) (api.Hop, bool) {
	hop, leads := api.Hop{From: c}, false
	switch why := d.why(c).(type) {
	case inheritance:
		hop.Kind = api.HopHeir
		hop.To, leads = why.target(d)
	case redirection:
		hop.Kind, hop.Order = api.HopOrder, why.order.Order
		hop.To, leads = why.target(d)
	}
	return hop, leads
}

// Follow follows the hops from a pair.
func Follow(l []api.Entry, c api.Candidate, sender, day int) (api.Route, api.Errno) {
	if !isId(c.Person) || !isId(c.Place) || !isIdOrZero(sender) || !isDay(day) {
		return api.Route{}, api.ErrArg
	}
	d := on(l, day)
	r := api.Route{End: c}
	met := map[api.Candidate]int{} // how many hops led to each pair
arrived:
	met[r.End] = len(r.Hops)
	hop, leads := d.hop(r.End)
	switch {
	case d.dead[r.End.Person] && hop.Kind == 0:
		r.Kind = api.RouteDead
	case d.refuses(r.End, sender):
		r.Kind = api.RouteRefused
	case hop.Kind != 0 && !leads:
		r.Kind, r.End = api.RouteHomeless, hop.To
	case leads:
		r.Hops = append(r.Hops, hop)
		r.End = hop.To
		back, before := met[hop.To]
		if !before {
			goto arrived
		}
		r.Kind, r.Back = api.RouteLoop, back
	case d.lives(r.End):
		r.Kind = api.RouteHouse
	default:
		r.Kind = api.RouteGone
	}
	return r, api.OK
}

// CheckRoute reports whether Follow returns a route.
func CheckRoute(l []api.Entry, c api.Candidate, sender, day int, r api.Route) bool {
	is, e := Follow(l, c, sender, day)
	return e == api.OK && is.Kind == r.Kind && is.End == r.End && is.Back == r.Back && slices.Equal(is.Hops, r.Hops)
}
