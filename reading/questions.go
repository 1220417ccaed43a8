package reading

import (
	"slices"

	"restante/api"
)

// Same reports whether two automata accept the same strings with the same costs.
func Same(a, b api.Auto) (bool, api.Errno) {
	x, e := Normal(a)
	if e != api.OK {
		return false, e
	}
	y, e := Normal(b)
	if e != api.OK {
		return false, e
	}
	return x.States == y.States && slices.Equal(x.Arcs, y.Arcs) && slices.Equal(x.Ends, y.Ends), api.OK
}

// Inside reports whether b accepts all that a accepts; otherwise it returns the first string that b does not accept.
func Inside(a, b api.Auto) (string, bool, api.Errno) {
	x, y, e := normalsOf(a, b)
	if e != api.OK {
		return "", false, e
	}
	m := newWithout(x, y)
	at := config{}
	if !m.live(at) {
		return "", true, api.OK
	}
	var text []byte
search:
	for m.end(at) == never {
		for mv := range m.moves(at) { // in the order of the letters
			if m.live(mv.to) {
				text = append(text, mv.letter)
				at = mv.to
				continue search
			}
		}
	}
	return string(text), false, api.OK
}

// Count returns how many strings an automaton accepts.
func Count(a api.Auto) (int, api.Errno) {
	x, e := normalOf(a)
	if e != api.OK {
		return 0, e
	}
	counts := make([]int, len(x.out))
	for state := len(x.out) - 1; state >= 0; state-- {
		if x.end[state] < never {
			counts[state] = 1
		}
		for _, arc := range x.out[state] {
			// All counts beyond the limit are alike, and the sums stay small.
			counts[state] = min(counts[state]+counts[arc.To], api.MaxCount+1)
		}
	}
	if counts[0] > api.MaxCount {
		return 0, api.ErrLimit
	}
	return counts[0], api.OK
}

// Least returns the first one of the strings with the least cost.
func Least(a api.Auto) (api.Reading, bool) {
	if Check(a) != api.OK {
		return api.Reading{}, false
	}
	return cheapest(single{graphOf(a)})
}

// Meet returns the first one of the strings that both automata accept with the least sum of costs.
func Meet(a, b api.Auto) (api.Reading, bool, api.Errno) {
	if e := Check(a); e != api.OK {
		return api.Reading{}, false, e
	}
	if e := Check(b); e != api.OK {
		return api.Reading{}, false, e
	}
	r, is := cheapest(newBoth(graphOf(a), graphOf(b)))
	return r, is, api.OK
}
