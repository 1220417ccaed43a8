package seals

import (
	"slices"

	"restante/api"
)

// checkShowing returns the errors that all functions that show looks have in common.
func checkShowing(t api.Thing, s api.Seal, p api.Policy, f api.Fact) api.Errno {
	if e := CheckSeal(t, s); e != api.OK {
		return e
	}
	if e := CheckPolicy(p); e != api.OK {
		return e
	}
	f.Layer = 1
	if !validFact(f) {
		return api.ErrArg
	}
	return api.OK
}

// opens reports whether the decision of a policy is true at a fact with another layer.
func opens(p api.Policy, f api.Fact, layer int) bool {
	f.Layer = layer
	return decisionAt(p, f).Open
}

// mayLook reports whether the room of the fact may look at a look of the thing.
func mayLook(s api.Seal, p api.Policy, f api.Fact, l api.Look) bool {
	if slices.Contains(shownTo(s, f.Room), l) || !opens(p, f, l.Layer) {
		return false
	}
	for layer := Depth(s, f.Room) + 1; layer < l.Layer; layer++ {
		if !opens(p, f, layer) {
			return false
		}
	}
	return true
}

// Allowed returns all looks at which the room of the fact may look, in ascending order.
func Allowed(t api.Thing, s api.Seal, p api.Policy, f api.Fact) ([]api.Look, api.Errno) {
	if e := checkShowing(t, s, p, f); e != api.OK {
		return nil, e
	}
	var looks []api.Look
	for _, l := range looksOf(t) {
		if mayLook(s, p, f, l) {
			looks = append(looks, l)
		}
	}
	return looks, api.OK
}

// Take shows a look to the room of the fact.
func Take(t api.Thing, s api.Seal, p api.Policy, f api.Fact, l api.Look) (api.Seal, api.Piece, api.Errno) {
	e := checkShowing(t, s, p, f)
	switch {
	case e != api.OK:
	case !hasLook(t, l):
		e = api.ErrNone
	case slices.Contains(shownTo(s, f.Room), l):
		e = api.ErrTwice
	case !mayLook(s, p, f, l):
		e = api.ErrSealed
	}
	if e != api.OK {
		return api.Seal{}, api.Piece{}, e
	}
	return show(s, f.Room, []api.Look{l}), copyOf(pieceAt(t, l)), api.OK
}

// handed returns the looks of a room that the room of the fact may be handed and does not have, in ascending order.
func handed(s api.Seal, p api.Policy, f api.Fact, from int, has []api.Look) []api.Look {
	var looks []api.Look
	for _, l := range shownTo(s, from) {
		if !slices.Contains(has, l) && opens(p, f, l.Layer) {
			looks = append(looks, l)
		}
	}
	return looks
}

// Hand hands over looks from a room to the room of the fact.
func Hand(t api.Thing, s api.Seal, p api.Policy, f api.Fact, from int) (api.Seal, []api.Look, api.Errno) {
	if e := checkShowing(t, s, p, f); e != api.OK {
		return api.Seal{}, nil, e
	}
	if !isRoom(from) || from == f.Room {
		return api.Seal{}, nil, api.ErrArg
	}
	looks := handed(s, p, f, from, shownTo(s, f.Room))
	return show(s, f.Room, looks), looks, api.OK
}

// Pass hands over looks from a room to the room of the fact in another office.
func Pass(t api.Thing, s api.Seal, p api.Policy, f api.Fact, from int) (api.Seal, []api.Look, api.Errno) {
	if e := checkShowing(t, s, p, f); e != api.OK {
		return api.Seal{}, nil, e
	}
	if !isRoom(from) {
		return api.Seal{}, nil, api.ErrArg
	}
	looks := handed(s, p, f, from, nil)
	// What the rooms of the office before were shown stays there.
	unseen := api.Seal{Thing: s.Thing, Opened: s.Opened}
	return show(unseen, f.Room, looks), looks, api.OK
}
