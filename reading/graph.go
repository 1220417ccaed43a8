package reading

import (
	"cmp"
	"slices"

	"restante/api"
)

// never is the cost of what cannot be. It is greater than every cost that can be, and small enough that costs may be added to it.
const never = 1 << 60

// lost is the state to which a string leads that leads to no state.
const lost = -1

// Check returns the error of an automaton.
func Check(a api.Auto) api.Errno {
	if a.States > api.MaxStates || len(a.Arcs) > api.MaxArcs || len(a.Ends) > api.MaxStates {
		return api.ErrLimit
	}
	if a.States < 1 {
		return api.ErrArg
	}
	for i, arc := range a.Arcs {
		if !validArc(arc, a.States) || i > 0 && compareArcs(a.Arcs[i-1], arc) >= 0 {
			return api.ErrArg
		}
	}
	for i, end := range a.Ends {
		if !validEnd(end, a.States) || i > 0 && a.Ends[i-1].State >= end.State {
			return api.ErrArg
		}
	}
	return api.OK
}

func validArc(arc api.Arc, states int) bool {
	return arc.From >= 0 && arc.From < arc.To && arc.To < states && IsLetter(arc.Letter) && validCost(arc.Cost)
}

func validEnd(end api.End, states int) bool {
	return end.State >= 0 && end.State < states && validCost(end.Cost)
}

func validCost(cost int) bool { return cost >= 0 && cost <= api.MaxCost }

// compareArcs compares arcs in the order that valid automata require.
func compareArcs(p, q api.Arc) int {
	return cmp.Or(cmp.Compare(p.From, q.From), cmp.Compare(p.To, q.To), cmp.Compare(p.Letter, q.Letter))
}

// graph is a valid automaton, laid out by its states.
type graph struct {
	out  [][]api.Arc // the arcs from each state, in the order of (Letter, To)
	end  []int       // the cost of the end of each state, or never
	rest []int       // the least cost of a completion of each state, or never
}

// graphOf lays out a valid automaton.
func graphOf(a api.Auto) *graph {
	g := &graph{out: make([][]api.Arc, a.States), end: slices.Repeat([]int{never}, a.States), rest: make([]int, a.States)}
	for _, arc := range a.Arcs {
		g.out[arc.From] = append(g.out[arc.From], arc)
	}
	for _, end := range a.Ends {
		g.end[end.State] = end.Cost
	}
	// Arcs lead to greater states only, so the last states come first.
	for state := a.States - 1; state >= 0; state-- {
		g.rest[state] = g.end[state]
		for _, arc := range g.out[state] {
			g.rest[state] = min(g.rest[state], arc.Cost+g.rest[arc.To])
		}
		slices.SortFunc(g.out[state], func(p, q api.Arc) int {
			return cmp.Or(cmp.Compare(p.Letter, q.Letter), cmp.Compare(p.To, q.To))
		})
	}
	return g
}

// empty reports whether the automaton accepts nothing.
func (g *graph) empty() bool { return g.rest[0] == never }

// by returns the arcs with a letter from a state; none if the state is lost.
func (g *graph) by(state int, letter byte) []api.Arc {
	if state == lost {
		return nil
	}
	out := g.out[state]
	begin, _ := slices.BinarySearchFunc(out, letter, func(arc api.Arc, letter byte) int {
		return cmp.Compare(arc.Letter, letter)
	})
	end := begin
	for end < len(out) && out[end].Letter == letter {
		end++
	}
	return out[begin:end]
}

// follow returns the state to which a letter leads from a state of a deterministic automaton.
func (g *graph) follow(state int, letter byte) int {
	for _, arc := range g.by(state, letter) {
		return arc.To
	}
	return lost
}

// endAt returns the cost of the end of a state, or never.
func (g *graph) endAt(state int) int {
	if state == lost {
		return never
	}
	return g.end[state]
}

// Cost returns the cost with which an automaton accepts a string.
func Cost(a api.Auto, s string) (int, bool) {
	if Check(a) != api.OK {
		return 0, false
	}
	g := graphOf(a)
	costs := map[int]int{0: 0} // of the states to which the string leads so far
	for i := 0; i < len(s) && len(costs) > 0; i++ {
		costs = g.after(costs, s[i])
	}
	least := never
	for state, cost := range costs {
		least = min(least, cost+g.end[state])
	}
	if least == never {
		return 0, false
	}
	return least, true
}

// after returns the states to which a letter leads from some states, with their least costs.
func (g *graph) after(costs map[int]int, letter byte) map[int]int {
	next := map[int]int{}
	for state, cost := range costs {
		for _, arc := range g.by(state, letter) {
			known, met := next[arc.To]
			if !met || cost+arc.Cost < known {
				next[arc.To] = cost + arc.Cost
			}
		}
	}
	return next
}
