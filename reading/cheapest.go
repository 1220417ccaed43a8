package reading

import "restante/api"

// rated is a machine of automata that knows the least cost of the rests of accepted strings.
type rated interface {
	machine
	// rest returns the least cost of what leads from a configuration to an end, or never.
	rest(c config) int
}

// cheapest returns the first one of the strings with the least cost.
func cheapest(m rated) (api.Reading, bool) {
	begin := config{}
	cost := m.rest(begin)
	if cost == never {
		return api.Reading{}, false
	}
	f := &finder{m: m, found: map[config]int{}, tails: []tail{{}}, numbers: map[tail]int{}}
	var text []byte
	for n := f.first(begin); n != 0; n = f.tails[n].next {
		text = append(text, f.tails[n].letter)
	}
	return api.Reading{Text: string(text), Cost: cost}, true
}

// tail is a string: a letter, and the number of the string that follows.
type tail struct {
	letter byte
	next   int
}

// finder finds the first one of the cheapest rests of each configuration. Equal strings have one number, so that each configuration is searched only once and most strings are told apart at once.
type finder struct {
	m       rated
	found   map[config]int
	tails   []tail // by their numbers; 0 is the empty string
	numbers map[tail]int
}

// first returns the number of the first one of the cheapest rests of a configuration that has one.
func (f *finder) first(c config) int {
	if n, known := f.found[c]; known {
		return n
	}
	n := 0
	if rest := f.m.rest(c); f.m.end(c) != rest {
		n = f.firstBehind(c, rest)
	}
	f.found[c] = n
	return n
}

// firstBehind does what first does for a configuration where the empty string is not the cheapest rest.
func (f *finder) firstBehind(c config, rest int) int {
	var best tail
	met := false
	for mv := range f.m.moves(c) { // in the order of the letters
		if met && mv.letter > best.letter {
			break
		}
		if mv.cost+f.m.rest(mv.to) != rest {
			continue
		}
		next := f.first(mv.to)
		if !met || f.before(next, best.next) {
			best = tail{letter: mv.letter, next: next}
			met = true
		}
	}
	return f.number(best)
}

func (f *finder) number(t tail) int {
	n, known := f.numbers[t]
	if !known {
		n = len(f.tails)
		f.tails = append(f.tails, t)
		f.numbers[t] = n
	}
	return n
}

// before reports whether one string comes before another one in byte order.
func (f *finder) before(m, n int) bool {
	for m != n {
		s, t := f.tails[m], f.tails[n]
		if m == 0 || n == 0 {
			return m == 0
		}
		if s.letter != t.letter {
			return s.letter < t.letter
		}
		m, n = s.next, t.next
	}
	return false
}
