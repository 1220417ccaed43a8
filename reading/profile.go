package reading

import (
	"cmp"
	"slices"
	"strconv"

	"restante/api"
)

// share is a part of a profile: the number of a live configuration, and its cost less the least one of the profile.
type share struct{ id, cost int }

// step leads from a node to another one.
type step struct {
	letter   byte
	to, cost int
}

// node is a state of a deterministic machine: its steps in the order of their letters, and the cost of its end, or never.
type node struct {
	steps []step
	end   int
}

// arrival is a configuration to which a letter leads from a profile.
type arrival struct {
	letter   byte
	id, cost int
}

// profiler finds the profiles of a machine; each of them becomes a node.
type profiler struct {
	m        machine
	ids      map[config]int // the numbers of the live configurations; lost for the others
	configs  []config       // by their numbers
	known    map[string]int // the nodes of the profiles, by the keys of these
	profiles [][]share      // by their nodes
	nodes    []node
}

// nodesOf returns the nodes of the profiles of a machine, that of the empty string first; false if there are more than MaxStates.
func nodesOf(m machine) ([]node, bool) {
	p := &profiler{m: m, ids: map[config]int{}, known: map[string]int{}}
	var first []arrival
	for _, c := range m.start() {
		if id := p.number(c); id != lost {
			first = append(first, arrival{id: id})
		}
	}
	if len(first) == 0 {
		return nil, true
	}
	profile, _ := profileOf(first)
	p.place(profile)
	for i := 0; i < len(p.profiles); i++ {
		n := p.expand(p.profiles[i])
		if len(p.profiles) > api.MaxStates {
			return nil, false
		}
		p.nodes = append(p.nodes, n)
	}
	return p.nodes, true
}

// number returns the number of a configuration; lost if it is not live.
func (p *profiler) number(c config) int {
	id, known := p.ids[c]
	if known {
		return id
	}
	id = lost
	if p.m.live(c) {
		id = len(p.configs)
		p.configs = append(p.configs, c)
	}
	p.ids[c] = id
	return id
}

// place returns the node of a profile.
func (p *profiler) place(profile []share) int {
	var key []byte
	for _, s := range profile {
		key = strconv.AppendInt(key, int64(s.id), 36)
		key = append(key, ' ')
		key = strconv.AppendInt(key, int64(s.cost), 36)
		key = append(key, ' ')
	}
	i, known := p.known[string(key)]
	if !known {
		i = len(p.profiles)
		p.profiles = append(p.profiles, profile)
		p.known[string(key)] = i
	}
	return i
}

// expand returns the node of a profile.
func (p *profiler) expand(profile []share) node {
	n := node{end: never}
	var arrivals []arrival
	for _, s := range profile {
		c := p.configs[s.id]
		n.end = min(n.end, s.cost+p.m.end(c))
		for mv := range p.m.moves(c) {
			if id := p.number(mv.to); id != lost {
				arrivals = append(arrivals, arrival{letter: mv.letter, id: id, cost: s.cost + mv.cost})
			}
		}
	}
	slices.SortFunc(arrivals, func(a, b arrival) int {
		return cmp.Or(cmp.Compare(a.letter, b.letter), cmp.Compare(a.id, b.id), cmp.Compare(a.cost, b.cost))
	})
	for len(arrivals) > 0 {
		count := 1
		for count < len(arrivals) && arrivals[count].letter == arrivals[0].letter {
			count++
		}
		next, least := profileOf(arrivals[:count])
		to := p.place(next)
		n.steps = append(n.steps, step{letter: arrivals[0].letter, to: to, cost: least})
		arrivals = arrivals[count:]
	}
	return n
}

// profileOf returns the profile of arrivals that are sorted by their configurations and costs, and the least cost.
func profileOf(arrivals []arrival) ([]share, int) {
	least := never
	for _, a := range arrivals {
		least = min(least, a.cost)
	}
	var profile []share
	for i, a := range arrivals {
		if i == 0 || arrivals[i-1].id != a.id {
			profile = append(profile, share{id: a.id, cost: a.cost - least})
		}
	}
	return profile, least
}
