package reading

import (
	"iter"
	"slices"

	"restante/api"
)

// normalOf returns the normal form of an automaton, laid out.
func normalOf(a api.Auto) (*graph, api.Errno) {
	n, e := Normal(a)
	if e != api.OK {
		return nil, e
	}
	return graphOf(n), api.OK
}

// normalsOf returns the normal forms of two automata, laid out.
func normalsOf(a, b api.Auto) (x, y *graph, e api.Errno) {
	x, e = normalOf(a)
	if e != api.OK {
		return nil, nil, e
	}
	y, e = normalOf(b)
	if e != api.OK {
		return nil, nil, e
	}
	return x, y, api.OK
}

// Union returns the normal form of the strings that a or b accepts.
func Union(a, b api.Auto) (api.Auto, api.Errno) {
	x, y, e := normalsOf(a, b)
	if e != api.OK {
		return api.Auto{}, e
	}
	return resultOf(union{[2]*graph{x, y}})
}

// Both returns the normal form of the strings that a and b accept.
func Both(a, b api.Auto) (api.Auto, api.Errno) {
	x, y, e := normalsOf(a, b)
	if e != api.OK {
		return api.Auto{}, e
	}
	return resultOf(newBoth(x, y))
}

// Without returns the normal form of the strings that a accepts and b does not.
func Without(a, b api.Auto) (api.Auto, api.Errno) {
	x, y, e := normalsOf(a, b)
	if e != api.OK {
		return api.Auto{}, e
	}
	return resultOf(newWithout(x, y))
}

// Join returns the normal form of the strings that begin with one that a accepts and go on with one that b accepts.
func Join(a, b api.Auto) (api.Auto, api.Errno) {
	x, y, e := normalsOf(a, b)
	if e != api.OK {
		return api.Auto{}, e
	}
	return resultOf(join{x, y})
}

// Within returns the normal form of the strings that a accepts with a cost of at most most.
func Within(a api.Auto, most int) (api.Auto, api.Errno) {
	x, e := normalOf(a)
	if e != api.OK {
		return api.Auto{}, e
	}
	return resultOf(within{x, most})
}

// union is the machine of Union: at is a state of the automaton with.
type union struct{ of [2]*graph }

func (m union) start() []config    { return []config{{with: 0}, {with: 1}} }
func (m union) end(c config) int   { return m.of[c.with].end[c.at] }
func (m union) live(c config) bool { return m.of[c.with].rest[c.at] < never }

func (m union) moves(c config) iter.Seq[move] {
	return func(yield func(move) bool) {
		for _, arc := range m.of[c.with].out[c.at] {
			if !yield(move{letter: arc.Letter, to: config{at: arc.To, with: c.with}, cost: arc.Cost}) {
				return
			}
		}
	}
}

// both is the machine of Both and Meet: at is a state of x, with one of y, which need not be normal forms.
type both struct {
	x, y  *graph
	rests []int // what rest has found, by pairs of states; lost for the others
}

func newBoth(x, y *graph) *both {
	return &both{x: x, y: y, rests: slices.Repeat([]int{lost}, len(x.out)*len(y.out))}
}

func (m *both) start() []config    { return []config{{}} }
func (m *both) end(c config) int   { return min(never, m.x.end[c.at]+m.y.end[c.with]) }
func (m *both) live(c config) bool { return m.rest(c) < never }

func (m *both) moves(c config) iter.Seq[move] {
	return func(yield func(move) bool) {
		for _, p := range m.x.out[c.at] {
			for _, q := range m.y.by(c.with, p.Letter) {
				if !yield(move{letter: p.Letter, to: config{at: p.To, with: q.To}, cost: p.Cost + q.Cost}) {
					return
				}
			}
		}
	}
}

// rest returns the least cost of a string that completes both states, or never.
func (m *both) rest(c config) int {
	i := c.at*len(m.y.out) + c.with
	if m.rests[i] != lost {
		return m.rests[i]
	}
	least := m.end(c)
	for mv := range m.moves(c) {
		rest := m.rest(mv.to)
		least = min(least, mv.cost+rest)
	}
	m.rests[i] = least
	return least
}

// without is the machine of Without and Inside: at is a state of x, and with one of y, or lost.
type without struct {
	x, y  *graph
	lives map[config]bool // what live has found
}

func newWithout(x, y *graph) *without {
	return &without{x: x, y: y, lives: map[config]bool{}}
}

func (m *without) start() []config { return []config{{}} }

func (m *without) end(c config) int {
	if m.y.endAt(c.with) < never {
		return never
	}
	return m.x.end[c.at]
}

func (m *without) moves(c config) iter.Seq[move] {
	return func(yield func(move) bool) {
		for _, arc := range m.x.out[c.at] {
			to := config{at: arc.To, with: m.y.follow(c.with, arc.Letter)}
			if !yield(move{letter: arc.Letter, to: to, cost: arc.Cost}) {
				return
			}
		}
	}
}

func (m *without) live(c config) bool {
	is, known := m.lives[c]
	if known {
		return is
	}
	is = m.end(c) < never
	for mv := range m.moves(c) {
		if is {
			break
		}
		is = m.live(mv.to)
	}
	m.lives[c] = is
	return is
}

// join is the machine of Join: at is a state of x if with is 0, and one of y other than 0 if with is 1.
type join struct{ x, y *graph }

func (m join) start() []config { return []config{{}} }

// If one of the two accepts nothing, no rest of an accepted string may follow.
func (m join) live(c config) bool { return !m.x.empty() && !m.y.empty() }

func (m join) end(c config) int {
	if c.with == 1 {
		return m.y.end[c.at]
	}
	return min(never, m.x.end[c.at]+m.y.end[0])
}

func (m join) moves(c config) iter.Seq[move] {
	return func(yield func(move) bool) {
		if c.with == 1 {
			sendArcs(yield, m.y.out[c.at], 1, 0)
			return
		}
		if !sendArcs(yield, m.x.out[c.at], 0, 0) {
			return
		}
		if end := m.x.end[c.at]; end < never {
			sendArcs(yield, m.y.out[0], 1, end)
		}
	}
}

// sendArcs yields the moves along arcs of the automaton with, at costs that are raised.
func sendArcs(yield func(move) bool, arcs []api.Arc, with, raise int) bool {
	for _, arc := range arcs {
		if !yield(move{letter: arc.Letter, to: config{at: arc.To, with: with}, cost: raise + arc.Cost}) {
			return false
		}
	}
	return true
}

// within is the machine of Within: at is a state of x, and with the cost of the path that led to it.
type within struct {
	x    *graph
	most int
}

func (m within) start() []config    { return []config{{}} }
func (m within) live(c config) bool { return c.with+m.x.rest[c.at] <= min(m.most, never-1) }

func (m within) end(c config) int {
	if end := m.x.end[c.at]; end < never && c.with+end <= m.most {
		return end
	}
	return never
}

func (m within) moves(c config) iter.Seq[move] {
	return func(yield func(move) bool) {
		for _, arc := range m.x.out[c.at] {
			if !yield(move{letter: arc.Letter, to: config{at: arc.To, with: c.with + arc.Cost}, cost: arc.Cost}) {
				return
			}
		}
	}
}
