package reading

import (
	"cmp"
	"slices"
	"strconv"

	"restante/api"
)

// Word returns the normal form of one string with one cost.
func Word(s string, cost int) (api.Auto, api.Errno) {
	if len(s) > api.MaxText {
		return api.Auto{}, api.ErrLimit
	}
	if !allLetters(s) || !validCost(cost) {
		return api.Auto{}, api.ErrArg
	}
	a := api.Auto{States: len(s) + 1}
	for i := range len(s) {
		a.Arcs = append(a.Arcs, api.Arc{From: i, To: i + 1, Letter: s[i], Cost: cost})
		cost = 0 // the first arc has it all
	}
	a.Ends = []api.End{{State: len(s), Cost: cost}}
	return a, api.OK
}

// Normal returns the normal form of an automaton.
func Normal(a api.Auto) (api.Auto, api.Errno) {
	if e := Check(a); e != api.OK {
		return api.Auto{}, e
	}
	return resultOf(single{graphOf(a)})
}

// Of returns the normal form of what cells may say.
func Of(cells []api.Cell) (api.Auto, api.Errno) {
	if e := CheckCells(cells); e != api.OK {
		return api.Auto{}, e
	}
	return resultOf(line{cells})
}

// Plain returns the normal form of the strings that an automaton accepts, without their costs.
func Plain(a api.Auto) (api.Auto, api.Errno) {
	if e := Check(a); e != api.OK {
		return api.Auto{}, e
	}
	free := api.Auto{States: a.States, Arcs: slices.Clone(a.Arcs), Ends: slices.Clone(a.Ends)}
	for i := range free.Arcs {
		free.Arcs[i].Cost = 0
	}
	for i := range free.Ends {
		free.Ends[i].Cost = 0
	}
	return Normal(free)
}

// resultOf returns the normal form of what a machine accepts; ErrLimit if it has too many profiles, or the normal form does not fit.
func resultOf(m machine) (api.Auto, api.Errno) {
	nodes, few := nodesOf(m)
	if !few {
		return api.Auto{}, api.ErrLimit
	}
	a := normalForm(nodes)
	if Check(a) != api.OK {
		return api.Auto{}, api.ErrLimit
	}
	return a, api.OK
}

// normalForm returns the normal form of the strings that nodes accept from the first node on, whatever its size. Each node has a completion.
func normalForm(nodes []node) api.Auto {
	if len(nodes) == 0 {
		return api.Auto{States: 1}
	}
	f := &folder{nodes: nodes, class: slices.Repeat([]int{lost}, len(nodes)), moved: make([]int, len(nodes)), known: map[string]int{}}
	f.fold(0)
	return f.auto(f.order())
}

// folder joins the nodes that have the same completions to classes.
type folder struct {
	nodes   []node
	class   []int          // of the nodes; lost as long as they have none
	moved   []int          // the costs that were moved from the completions of the nodes to the steps that lead to them
	known   map[string]int // the classes, by the keys of their nodes
	classes []node         // with steps to classes
	height  []int          // of the classes: the lengths of their longest completions
}

// fold finds the class of a node, after those of the nodes behind it.
func (f *folder) fold(i int) {
	if f.class[i] != lost {
		return
	}
	n := node{end: f.nodes[i].end}
	least := n.end
	for _, s := range f.nodes[i].steps {
		f.fold(s.to)
		cost := s.cost + f.moved[s.to]
		n.steps = append(n.steps, step{letter: s.letter, to: f.class[s.to], cost: cost})
		least = min(least, cost)
	}
	if i != 0 { // no step leads to the first node
		f.moved[i] = least
		n = cheaper(n, least)
	}
	f.class[i] = f.classOf(n)
}

// cheaper returns a node with all its costs lowered.
func cheaper(n node, by int) node {
	for i := range n.steps {
		n.steps[i].cost -= by
	}
	if n.end < never {
		n.end -= by
	}
	return n
}

func (f *folder) classOf(n node) int {
	key := strconv.AppendInt(nil, int64(n.end), 36)
	height := 0
	for _, s := range n.steps {
		key = append(key, ' ', s.letter)
		key = strconv.AppendInt(key, int64(s.to), 36)
		key = append(key, ' ')
		key = strconv.AppendInt(key, int64(s.cost), 36)
		height = max(height, f.height[s.to]+1)
	}
	c, known := f.known[string(key)]
	if !known {
		c = len(f.classes)
		f.classes = append(f.classes, n)
		f.height = append(f.height, height)
		f.known[string(key)] = c
	}
	return c
}

// order returns the classes in the order of the states of the normal form.
func (f *folder) order() []int {
	var order []int
	seen := make([]bool, len(f.classes))
	// Steps are taken in the order of their letters, so a class is met first by the least string that leads to it: a later one cannot have it as a prefix, as there are no cycles.
	var visit func(c int)
	visit = func(c int) {
		if seen[c] {
			return
		}
		seen[c] = true
		order = append(order, c)
		for _, s := range f.classes[c].steps {
			visit(s.to)
		}
	}
	visit(f.class[0])
	slices.SortStableFunc(order, func(c, d int) int { return cmp.Compare(f.height[d], f.height[c]) })
	return order
}

// auto returns the automaton whose states are the classes in this order.
func (f *folder) auto(order []int) api.Auto {
	state := make([]int, len(f.classes))
	for i, c := range order {
		state[c] = i
	}
	a := api.Auto{States: len(order)}
	for i, c := range order {
		n := f.classes[c]
		for _, s := range n.steps {
			a.Arcs = append(a.Arcs, api.Arc{From: i, To: state[s.to], Letter: s.letter, Cost: s.cost})
		}
		if n.end < never {
			a.Ends = append(a.Ends, api.End{State: i, Cost: n.end})
		}
	}
	slices.SortFunc(a.Arcs, compareArcs)
	return a
}
