package reading

import (
	"iter"

	"restante/api"
)

// config is a configuration of a machine; what its fields mean is up to the machine.
type config struct {
	at, with int
	rest     string
}

// move leads from a configuration to another one.
type move struct {
	letter byte
	to     config
	cost   int
}

// machine is an operation: it says which strings are accepted, at which costs.
type machine interface {
	// start returns the configurations to which the empty string leads, with the cost 0.
	start() []config
	// moves returns the moves from a configuration; those of machines of automata in the order of their letters.
	moves(c config) iter.Seq[move]
	// end returns the cost with which a string that leads to a configuration may end there, or never.
	end(c config) int
	// live reports whether the rest of an accepted string may follow.
	live(c config) bool
}

// single is the machine of an automaton alone: at is its state.
type single struct{ g *graph }

func (m single) start() []config    { return []config{{}} }
func (m single) end(c config) int   { return m.g.end[c.at] }
func (m single) rest(c config) int  { return m.g.rest[c.at] }
func (m single) live(c config) bool { return m.rest(c) < never }

func (m single) moves(c config) iter.Seq[move] {
	return func(yield func(move) bool) {
		for _, arc := range m.g.out[c.at] {
			if !yield(move{letter: arc.Letter, to: config{at: arc.To}, cost: arc.Cost}) {
				return
			}
		}
	}
}

// line is the machine of a list of cells: rest is what is still to be spelled of the last alternative, and at is the next cell.
type line struct{ cells []api.Cell }

func (m line) start() []config    { return []config{{}} }
func (m line) live(c config) bool { return true }

func (m line) end(c config) int {
	if c.rest != "" {
		return never
	}
	cost := 0
	for _, cell := range m.cells[c.at:] {
		silent, found := find(cell.Alts, "")
		if !found {
			return never
		}
		cost += silent.Cost
	}
	return cost
}

func (m line) moves(c config) iter.Seq[move] {
	return func(yield func(move) bool) {
		if c.rest != "" {
			yield(move{letter: c.rest[0], to: config{at: c.at, rest: c.rest[1:]}})
			return
		}
		cost := 0 // of the cells that are skipped
		for at := c.at; at < len(m.cells); at++ {
			for _, alt := range m.cells[at].Alts {
				if alt.Letters == "" {
					continue
				}
				if !yield(move{letter: alt.Letters[0], to: config{at: at + 1, rest: alt.Letters[1:]}, cost: cost + alt.Cost}) {
					return
				}
			}
			silent, found := find(m.cells[at].Alts, "")
			if !found {
				return
			}
			cost += silent.Cost
		}
	}
}
