package judge

import (
	"slices"

	"restante/api"
	"restante/seals"
)

// rivals are the candidates left for a role.
type rivals struct {
	q    *inquiry
	role int
	left []api.Candidate
}

func (q *inquiry) rivals(role int) rivals { return rivals{q: q, role: role, left: q.left(role)} }

// isOne reports whether all candidates are one person.
func (r rivals) isOne() bool { return count(r.left) == api.LeftOne }

// tooMany reports whether there are more candidates than looks are weighed for.
func (r rivals) tooMany() bool { return len(r.left) > api.MaxLeft }

// invitesLook reports whether there is a plan, and one that is not empty.
func (r rivals) invitesLook() bool {
	if r.tooMany() || count(r.left) != api.LeftMany {
		return false
	}
	_, _, ok := r.separate(r.usable())
	return ok
}

// usable returns the looks that the rules allow now and that have the role.
func (r rivals) usable() []api.Look { return r.q.having(r.q.c.May, r.role) }

// tells reports whether a look that has the role tells two pairs apart.
func (r rivals) tells(l api.Look, x, y api.Candidate) bool {
	return r.q.areApart(r.q.pieceAt(l).Kind, x, y)
}

// tell reports whether one of some looks that have the role tells two pairs apart.
func (r rivals) tell(looks []api.Look, x, y api.Candidate) bool {
	return slices.ContainsFunc(looks, func(l api.Look) bool { return r.tells(l, x, y) })
}

// separate returns true if looks that have the role separate the candidates; otherwise the first two that they do not tell apart.
func (r rivals) separate(looks []api.Look) (x, y api.Candidate, ok bool) {
	ok = true
search:
	for i, a := range r.left {
		for _, b := range r.left[i+1:] {
			if a.Person != b.Person && !r.tell(looks, a, b) {
				x, y, ok = a, b, false
				break search
			}
		}
	}
	return x, y, ok
}

// Separates returns true if looks separate the candidates left for a role; otherwise the first two that they do not tell apart.
func Separates(c api.Case, role int, looks []api.Look) (x, y api.Candidate, ok bool, e api.Errno) {
	q, e := inquireAs(c, role)
	if e != api.OK {
		return x, y, false, e
	}
	if !q.isSet(looks) {
		return x, y, false, api.ErrArg
	}
	r := q.rivals(role)
	if r.tooMany() {
		return x, y, false, api.ErrLimit
	}
	x, y, ok = r.separate(q.having(looks, role))
	return x, y, ok, api.OK
}

// Worth returns how many pairs of candidates left for a role a look tells apart.
func Worth(c api.Case, role int, l api.Look) (int, api.Errno) {
	q, e := inquireAs(c, role)
	if e != api.OK {
		return 0, e
	}
	if !slices.Contains(q.looks, l) {
		return 0, api.ErrArg
	}
	r := q.rivals(role)
	if r.tooMany() {
		return 0, api.ErrLimit
	}
	if Role(q.pieceAt(l).Kind) != role {
		return 0, api.OK
	}
	return r.worth(l), api.OK
}

func (r rivals) worth(l api.Look) int {
	n := 0
	for i, a := range r.left {
		for _, b := range r.left[i+1:] {
			if a.Person != b.Person && r.tells(l, a, b) {
				n++
			}
		}
	}
	return n
}

// intrusion returns the intrusion of a set of looks of the thing.
func (q *inquiry) intrusion(looks []api.Look) int {
	// The weights and the depth of a valid case have no error.
	n, _ := seals.Intrusion(q.c.Weights, q.c.Opened, looks)
	return n
}
