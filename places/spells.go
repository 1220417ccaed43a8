package places

import (
	"cmp"
	"slices"
	"strings"

	"restante/api"
	"restante/reading"
)

// maxBytes is the greatest number of bytes of either side of a spelling rule.
const maxBytes = 3

// CheckSpells returns the error of a list of spelling rules.
func CheckSpells(l []api.Spell) api.Errno {
	if len(l) > api.MaxSpells {
		return api.ErrLimit
	}
	for i, s := range l {
		if !validSide(s.From) || !validSide(s.To) {
			return api.ErrForm
		}
		if s.From == s.To || s.Cost < 0 || s.Cost > api.MaxAlt {
			return api.ErrArg
		}
		for _, earlier := range l[:i] {
			if earlier.From == s.From && earlier.To == s.To {
				return api.ErrTwice
			}
		}
	}
	return api.OK
}

func validSide(s string) bool {
	if len(s) < 1 || len(s) > maxBytes {
		return false
	}
	for i := range len(s) {
		if !reading.IsLetter(s[i]) {
			return false
		}
	}
	return true
}

// matchesAt returns the indices of the rules that match at an index of a name, in order.
func matchesAt(name string, at int, l []api.Spell) []int {
	var rules []int
	for rule, s := range l {
		if strings.HasPrefix(name[at:], s.From) {
			rules = append(rules, rule)
		}
	}
	return rules
}

// isCrowded reports whether a name has too many matches.
func isCrowded(name string, l []api.Spell) bool {
	n := 0
	for at := range len(name) {
		n += len(matchesAt(name, at, l))
	}
	return n > api.MaxMatches
}

// checkSpelling returns the error of a name and a list of rules.
func checkSpelling(name string, l []api.Spell) api.Errno {
	if !reading.IsName(name) {
		return api.ErrForm
	}
	if e := CheckSpells(l); e != api.OK {
		return e
	}
	if isCrowded(name, l) {
		return api.ErrLimit
	}
	return api.OK
}

// raw returns the raw automaton of a name and a list of rules.
func raw(name string, l []api.Spell) api.Auto {
	states := statesOf(name, l)
	last := states[len(name)]
	a := api.Auto{States: last + 1, Ends: []api.End{{State: last}}}
	for at := range len(name) {
		a.Arcs = append(a.Arcs, api.Arc{From: states[at], To: states[at+1], Letter: name[at]})
		own := states[at] + 1
		for _, rule := range matchesAt(name, at, l) {
			s := l[rule]
			a.Arcs = append(a.Arcs, way(s, states[at], states[at+len(s.From)], own)...)
			own += len(s.To) - 1
		}
	}
	slices.SortFunc(a.Arcs, func(p, q api.Arc) int {
		return cmp.Or(cmp.Compare(p.From, q.From), cmp.Compare(p.To, q.To), cmp.Compare(p.Letter, q.Letter))
	})
	return a
}

// statesOf returns the states of the indices of a name. The own states of the matches at an index follow it, so that all arcs lead to greater states.
func statesOf(name string, l []api.Spell) []int {
	states := []int{0}
	for at := range len(name) {
		next := states[at] + 1
		for _, rule := range matchesAt(name, at, l) {
			next += len(l[rule].To) - 1
		}
		states = append(states, next)
	}
	return states
}

// way returns the arcs between two states that spell what a rule writes; own is the first state of its own.
func way(s api.Spell, from, to, own int) []api.Arc {
	var arcs []api.Arc
	cost := s.Cost
	for i := range len(s.To) - 1 {
		arcs = append(arcs, api.Arc{From: from, To: own + i, Letter: s.To[i], Cost: cost})
		from, cost = own+i, 0
	}
	return append(arcs, api.Arc{From: from, To: to, Letter: s.To[len(s.To)-1], Cost: cost})
}

// Spelled returns the normal form of the spellings of a name.
func Spelled(name string, l []api.Spell) (api.Auto, api.Errno) {
	if e := checkSpelling(name, l); e != api.OK {
		return api.Auto{}, e
	}
	return reading.Normal(raw(name, l))
}
