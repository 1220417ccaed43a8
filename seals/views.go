package seals

import (
	"slices"

	"restante/api"
)

// See returns the view of a room.
func See(t api.Thing, s api.Seal, room int) (api.View, api.Errno) {
	if e := CheckSeal(t, s); e != api.OK {
		return api.View{}, e
	}
	if !isRoom(room) {
		return api.View{}, api.ErrArg
	}
	v := api.View{Thing: t.Id, Day: t.Day, Opened: Depth(s, room), Dockets: docketsOf(t)}
	for _, l := range shownTo(s, room) {
		v.Parts = append(v.Parts, api.Part{Look: l, Piece: copyOf(pieceAt(t, l))})
	}
	return v, api.OK
}

// Possible reports whether a thing could be the one that was seen.
func Possible(v api.View, t api.Thing) bool {
	if CheckThing(t) != api.OK || v.Thing != t.Id || v.Day != t.Day || !sameDockets(v.Dockets, docketsOf(t)) {
		return false
	}
	for _, x := range v.Parts {
		if !hasLook(t, x.Look) || !samePiece(x.Piece, pieceAt(t, x.Look)) {
			return false
		}
	}
	return true
}

// Alike reports whether a room cannot tell two things apart.
func Alike(t, u api.Thing, s api.Seal, room int) bool {
	v, e := See(t, s, room)
	if e != api.OK {
		return false
	}
	w, e := See(u, s, room)
	if e != api.OK {
		return false
	}
	return sameOutside(v, w) && v.Opened == w.Opened && slices.EqualFunc(v.Parts, w.Parts, samePart)
}

// Narrower reports whether a view shows all that another one of the same thing does.
func Narrower(v, w api.View) bool {
	if !sameOutside(v, w) || v.Opened < w.Opened {
		return false
	}
	for _, x := range w.Parts {
		if !slices.ContainsFunc(v.Parts, func(y api.Part) bool { return samePart(x, y) }) {
			return false
		}
	}
	return true
}

// sameOutside reports whether two views say the same of what can be seen from the outside.
func sameOutside(v, w api.View) bool {
	return v.Thing == w.Thing && v.Day == w.Day && sameDockets(v.Dockets, w.Dockets)
}

func sameDockets(a, b [][]uint8) bool {
	return slices.EqualFunc(a, b, func(x, y []uint8) bool { return slices.Equal(x, y) })
}

func samePart(x, y api.Part) bool { return x.Look == y.Look && samePiece(x.Piece, y.Piece) }
