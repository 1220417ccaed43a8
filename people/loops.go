package people

import (
	"slices"

	"restante/api"
)

// Loops returns all circles of hops on a day, each from its least pair on, in ascending order.
func Loops(l []api.Entry, day int) ([][]api.Candidate, api.Errno) {
	if !isDay(day) {
		return nil, api.ErrArg
	}
	d := on(l, day)
	met := map[api.Candidate]bool{}
	var circles [][]api.Candidate
	for _, c := range d.targets() {
		if circle := d.circle(c, met); len(circle) > 0 {
			circles = append(circles, fromLeast(circle))
		}
	}
	slices.SortFunc(circles, func(a, b []api.Candidate) int { return comparePairs(a[0], b[0]) })
	return circles, api.OK
}

// targets returns the pairs to which orders and inheritances lead; every pair of a circle is one of them.
func (d directory) targets() []api.Candidate {
	var causes []cause
	for x := range d.each(api.EntryRedirect) {
		causes = append(causes, redirection{x})
	}
	for x := range d.each(api.EntryHeir) {
		causes = append(causes, inheritance{x.Other})
	}
	pairs := map[api.Candidate]bool{}
	for _, why := range causes {
		if to, leads := why.target(d); leads {
			pairs[to] = true
		}
	}
	return sortedPairs(pairs)
}

// circle follows the hops from a pair up to a pair that was met, and returns the circle that they close, if there is one.
func (d directory) circle(c api.Candidate, met map[api.Candidate]bool) []api.Candidate {
	var walk []api.Candidate
	for !met[c] {
		met[c] = true
		walk = append(walk, c)
		hop, leads := d.hop(c)
		if !leads {
			return nil
		}
		c = hop.To
	}
	// A pair that was met on an earlier walk is not on this one: its circle was returned then.
	if i := slices.Index(walk, c); i >= 0 {
		return walk[i:]
	}
	return nil
}

// fromLeast returns a circle from its least pair on.
func fromLeast(circle []api.Candidate) []api.Candidate {
	i := slices.Index(circle, slices.MinFunc(circle, comparePairs))
	return slices.Concat(circle[i:], circle[:i])
}
