package judge

import (
	"slices"

	"restante/api"
	"restante/people"
)

// Candidates returns the candidates, in ascending order.
func Candidates(c api.Case) ([]api.Candidate, api.Errno) {
	q, e := inquire(c)
	if e != api.OK {
		return nil, e
	}
	return q.candidates(), api.OK
}

func (q *inquiry) candidates() []api.Candidate {
	exist := q.g.All(q.c.Thing.Day)
	return slices.DeleteFunc(people.Pairs(q.c.Books.People, q.c.Thing.Day), func(who api.Candidate) bool {
		_, is := slices.BinarySearch(exist, who.Place)
		return !is
	})
}

// made returns the looks that were made and have a role.
func (q *inquiry) made(role int) []api.Look { return q.having(q.c.Made, role) }

// fall returns the first one of some looks that were made that a pair does not fit, and whether there is one.
func (q *inquiry) fall(who api.Candidate, made []api.Look) (api.Look, bool) {
	for _, l := range made {
		if _, fits := q.fits(who, l); !fits {
			return l, true
		}
	}
	return api.Look{}, false
}

// Left returns the candidates left for a role, in ascending order.
func Left(c api.Case, role int) ([]api.Candidate, api.Errno) {
	q, e := inquireAs(c, role)
	if e != api.OK {
		return nil, e
	}
	return q.left(role), api.OK
}

func (q *inquiry) left(role int) []api.Candidate { return q.certify(role).Left }

// Count returns whether no person, one, or several are left for a role.
func Count(c api.Case, role int) (uint8, api.Errno) {
	q, e := inquireAs(c, role)
	if e != api.OK {
		return 0, e
	}
	return count(q.left(role)), api.OK
}

func count(left []api.Candidate) uint8 {
	switch len(Persons(left)) {
	case 0:
		return api.LeftNone
	case 1:
		return api.LeftOne
	}
	return api.LeftMany
}

// Ranked returns the candidates left for a role, those that fit best first.
func Ranked(c api.Case, role int) ([]api.Scored, api.Errno) {
	q, e := inquireAs(c, role)
	if e != api.OK {
		return nil, e
	}
	var list []api.Scored
	for _, who := range q.left(role) {
		list = append(list, api.Scored{Who: who, Cost: q.cost(who, q.made(role))})
	}
	slices.SortFunc(list, compareScored)
	return list, api.OK
}

// cost returns the sum of the costs with which a pair fits some looks that were made.
func (q *inquiry) cost(who api.Candidate, made []api.Look) int {
	sum := 0
	for _, l := range made {
		cost, _ := q.fits(who, l)
		sum += cost
	}
	return sum
}

// Certify returns a certificate of the candidates left for a role.
func Certify(c api.Case, role int) (api.Cert, api.Errno) {
	q, e := inquireAs(c, role)
	if e != api.OK {
		return api.Cert{}, e
	}
	return q.certify(role), api.OK
}

func (q *inquiry) certify(role int) api.Cert {
	var x api.Cert
	made := q.made(role)
	for _, who := range q.candidates() {
		if l, falls := q.fall(who, made); falls {
			x.Fell = append(x.Fell, api.Fell{Who: who, By: l})
		} else {
			x.Left = append(x.Left, who)
		}
	}
	return x
}

// CheckCert reports whether a certificate is right.
func CheckCert(c api.Case, role int, x api.Cert) (bool, api.Errno) {
	q, e := inquireAs(c, role)
	if e != api.OK {
		return false, e
	}
	return q.certified(role, x), api.OK
}

func (q *inquiry) certified(role int, x api.Cert) bool {
	return q.isDivided(x) && q.isFounded(x, q.made(role))
}

// isDivided reports whether each candidate is either among those left or among the others.
func (q *inquiry) isDivided(x api.Cert) bool {
	var fell []api.Candidate
	for _, f := range x.Fell {
		fell = append(fell, f.Who)
	}
	if !ascends(x.Left, comparePairs) || !ascends(fell, comparePairs) {
		return false
	}
	// A pair that stands in both lists would stand twice here, and among the candidates none does.
	all := slices.SortedFunc(slices.Values(slices.Concat(x.Left, fell)), comparePairs)
	return slices.Equal(all, q.candidates())
}

// isFounded reports whether those left fit all looks that were made, and the others do not fit that by which they fell.
func (q *inquiry) isFounded(x api.Cert, made []api.Look) bool {
	for _, who := range x.Left {
		if _, falls := q.fall(who, made); falls {
			return false
		}
	}
	for _, f := range x.Fell {
		if !slices.Contains(made, f.By) {
			return false
		}
		if _, fits := q.fits(f.Who, f.By); fits {
			return false
		}
	}
	return true
}
