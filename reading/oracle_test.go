package reading_test

import (
	"cmp"
	"fmt"
	"maps"
	"math/rand"
	"slices"
	"strings"
	"testing"

	"restante/api"
	"restante/reading"
)

// The oracles of the tests follow the definitions of the chapter string by string, without any of the package's own code.

// language is a set of strings with their costs.
type language map[string]int

func (l language) put(s string, cost int) {
	if old, met := l[s]; !met || cost < old {
		l[s] = cost
	}
}

// completions returns the completions of each state.
func completions(a api.Auto) []language {
	list := make([]language, a.States)
	for q := range list {
		list[q] = language{}
	}
	for _, end := range a.Ends {
		list[end.State].put("", end.Cost)
	}
	for q := a.States - 1; q >= 0; q-- {
		for _, arc := range a.Arcs {
			if arc.From == q {
				for s, cost := range list[arc.To] {
					list[q].put(string(rune(arc.Letter))+s, arc.Cost+cost)
				}
			}
		}
	}
	return list
}

func accepted(a api.Auto) language { return completions(a)[0] }

// spelled returns what readings of cells spell.
func spelled(cells []api.Cell) language {
	l := language{"": 0}
	for _, cell := range cells {
		next := language{}
		for s, cost := range l {
			for _, alt := range cell.Alts {
				next.put(s+alt.Letters, cost+alt.Cost)
			}
		}
		l = next
	}
	return l
}

func unionOf(x, y language) language {
	l := maps.Clone(x)
	for s, cost := range y {
		l.put(s, cost)
	}
	return l
}

func bothOf(x, y language) language {
	l := language{}
	for s, cost := range x {
		if other, is := y[s]; is {
			l[s] = cost + other
		}
	}
	return l
}

func withoutOf(x, y language) language {
	l := language{}
	for s, cost := range x {
		if _, is := y[s]; !is {
			l[s] = cost
		}
	}
	return l
}

func joinOf(x, y language) language {
	l := language{}
	for s, cost := range x {
		for t, other := range y {
			l.put(s+t, cost+other)
		}
	}
	return l
}

func withinOf(x language, most int) language {
	l := language{}
	for s, cost := range x {
		if cost <= most {
			l[s] = cost
		}
	}
	return l
}

func plainOf(x language) language {
	l := language{}
	for s := range x {
		l[s] = 0
	}
	return l
}

// sorted returns the readings of a language in their order.
func sorted(x language) []api.Reading {
	var list []api.Reading
	for s, cost := range x {
		list = append(list, api.Reading{Text: s, Cost: cost})
	}
	slices.SortFunc(list, func(r, s api.Reading) int {
		return cmp.Or(cmp.Compare(r.Cost, s.Cost), strings.Compare(r.Text, s.Text))
	})
	return list
}

// wantNormal requires that a is the normal form of a language, property by property.
func wantNormal(t *testing.T, name string, a api.Auto, want language) {
	t.Helper()
	if e := reading.Check(a); e != api.OK {
		t.Fatalf("%s: the automaton %v is not valid: error %d", name, a, e)
	}
	behind := completions(a)
	if !maps.Equal(behind[0], want) {
		t.Fatalf("%s: accepts %v; want %v", name, behind[0], want)
	}
	if len(want) == 0 {
		if a.States != 1 || len(a.Arcs) != 0 || len(a.Ends) != 0 {
			t.Fatalf("%s: %v is not the empty automaton", name, a)
		}
		return
	}
	checkStates(t, name, a, behind)
}

// checkStates requires what a normal form requires of the states of an automaton that accepts something.
func checkStates(t *testing.T, name string, a api.Auto, behind []language) {
	t.Helper()
	type way struct {
		from   int
		letter byte
	}
	ways := map[way]bool{}
	before := make([]language, a.States) // the strings that lead to each state
	for q := range before {
		before[q] = language{}
	}
	before[0].put("", 0)
	for _, arc := range a.Arcs {
		if ways[way{arc.From, arc.Letter}] {
			t.Fatalf("%s: %v is not deterministic", name, a)
		}
		ways[way{arc.From, arc.Letter}] = true
		for s := range before[arc.From] {
			before[arc.To].put(s+string(rune(arc.Letter)), 0)
		}
	}
	longest := func(q int) int {
		n := -1
		for s := range behind[q] {
			n = max(n, len(s))
		}
		return n
	}
	for q := range a.States {
		if len(before[q]) == 0 || len(behind[q]) == 0 {
			t.Fatalf("%s: state %d of %v is on no way", name, q, a)
		}
		if q == 0 {
			continue
		}
		if slices.Min(slices.Collect(maps.Values(behind[q]))) != 0 {
			t.Fatalf("%s: state %d of %v has no completion of cost 0", name, q, a)
		}
		for p := range q {
			if maps.Equal(behind[p], behind[q]) {
				t.Fatalf("%s: states %d and %d of %v are the same", name, p, q, a)
			}
		}
		if q > 1 {
			least := func(q int) string { return slices.Min(slices.Collect(maps.Keys(before[q]))) }
			if cmp.Or(cmp.Compare(longest(q), longest(q-1)), strings.Compare(least(q-1), least(q))) >= 0 {
				t.Fatalf("%s: states %d and %d of %v are numbered wrongly", name, q-1, q, a)
			}
		}
	}
}

// leading is, for each string, the live configurations to which it leads, with their least costs.
type leading map[string]language

func (l leading) put(s, config string, cost int) {
	if l[s] == nil {
		l[s] = language{}
	}
	l[s].put(config, cost)
}

// profiles returns the number of different profiles.
func (l leading) profiles() int {
	seen := map[string]bool{}
	for _, configs := range l {
		least := slices.Min(slices.Collect(maps.Values(configs)))
		key := ""
		for _, c := range slices.Sorted(maps.Keys(configs)) {
			key += fmt.Sprintf("%s=%d;", c, configs[c]-least)
		}
		seen[key] = true
	}
	return len(seen)
}

// paths returns, for each state, the strings that are spelled by paths to it, with their costs.
func paths(a api.Auto) []language {
	list := make([]language, a.States)
	for q := range list {
		list[q] = language{}
	}
	list[0].put("", 0)
	for _, arc := range a.Arcs { // sorted by From
		for s, cost := range list[arc.From] {
			list[arc.To].put(s+string(rune(arc.Letter)), cost+arc.Cost)
		}
	}
	return list
}

// stateOf returns, for each string, the state of a deterministic automaton to which it leads.
func stateOf(a api.Auto) map[string]int {
	states := map[string]int{}
	for q, l := range paths(a) {
		for s := range l {
			states[s] = q
		}
	}
	return states
}

func normalLeading(a api.Auto) leading {
	l := leading{}
	behind := completions(a)
	for q, p := range paths(a) {
		for s, cost := range p {
			if len(behind[q]) > 0 {
				l.put(s, fmt.Sprint(q), cost)
			}
		}
	}
	return l
}

// cellsProfiles returns the number of profiles of cells. What a string and a letter lead to depends on the profile of the string alone, so the strings need not be listed.
func cellsProfiles(cells []api.Cell) int {
	type config struct {
		at   int
		rest string
	}
	known := map[string]bool{}
	var list []map[config]int
	add := func(profile map[config]int) {
		least := slices.Min(slices.Collect(maps.Values(profile)))
		for c := range profile {
			profile[c] -= least
		}
		if key := fmt.Sprint(profile); !known[key] { // fmt sorts the keys
			known[key] = true
			list = append(list, profile)
		}
	}
	add(map[config]int{{}: 0})
	for i := 0; i < len(list); i++ {
		next := map[string]map[config]int{}
		put := func(letters string, at, cost int) {
			letter, c := letters[:1], config{at, letters[1:]}
			if next[letter] == nil {
				next[letter] = map[config]int{}
			}
			if old, met := next[letter][c]; !met || cost < old {
				next[letter][c] = cost
			}
		}
		for c, cost := range list[i] {
			if c.rest != "" {
				put(c.rest, c.at, cost)
				continue
			}
			for k := c.at; k < len(cells); k++ {
				silent := -1
				for _, alt := range cells[k].Alts {
					if alt.Letters == "" {
						silent = alt.Cost
					} else {
						put(alt.Letters, k+1, cost+alt.Cost)
					}
				}
				if silent < 0 {
					break
				}
				cost += silent
			}
		}
		for _, letter := range slices.Sorted(maps.Keys(next)) {
			add(next[letter])
		}
	}
	return len(list)
}

func unionLeading(x, y api.Auto) leading {
	l := leading{}
	for i, a := range []api.Auto{x, y} {
		if len(accepted(a)) == 0 {
			continue
		}
		for q, p := range paths(a) {
			for s, cost := range p {
				l.put(s, fmt.Sprint(i, q), cost)
			}
		}
	}
	return l
}

func bothLeading(x, y api.Auto) leading {
	l := leading{}
	xs, ys := completions(x), completions(y)
	in := stateOf(y)
	for p, list := range paths(x) {
		for s, cost := range list {
			if q, is := in[s]; is && len(bothOf(xs[p], ys[q])) > 0 {
				l.put(s, fmt.Sprint(p, q), cost)
			}
		}
	}
	return l
}

func withoutLeading(x, y api.Auto) leading {
	l := leading{}
	xs, ys := completions(x), completions(y)
	in := stateOf(y)
	for p, list := range paths(x) {
		for s, cost := range list {
			q, is := in[s]
			if !is && len(xs[p]) > 0 {
				l.put(s, fmt.Sprint(p, "mark"), cost)
			} else if is && len(withoutOf(xs[p], ys[q])) > 0 {
				l.put(s, fmt.Sprint(p, q), cost)
			}
		}
	}
	return l
}

func joinLeading(x, y api.Auto) leading {
	l := leading{}
	xs, ys := accepted(x), accepted(y)
	for p, list := range paths(x) {
		for s, cost := range list {
			if len(ys) > 0 {
				l.put(s, fmt.Sprint("x", p), cost)
			}
		}
	}
	for q, list := range paths(y) {
		for w, cost := range list {
			for u, first := range xs {
				if q > 0 {
					l.put(u+w, fmt.Sprint("y", q), first+cost)
				}
			}
		}
	}
	return l
}

func withinLeading(x api.Auto, most int) leading {
	l := leading{}
	behind := completions(x)
	for q, list := range paths(x) {
		for s, cost := range list {
			if len(behind[q]) > 0 && cost+slices.Min(slices.Collect(maps.Values(behind[q]))) <= most {
				l.put(s, fmt.Sprint(q, cost), cost)
			}
		}
	}
	return l
}

// randomAuto returns a valid automaton, deterministic or not.
func randomAuto(r *rand.Rand, states, arcs, costs int, letters string) api.Auto {
	a := api.Auto{States: 1 + r.Intn(states)}
	seen := map[api.Arc]bool{}
	for range r.Intn(arcs + 1) {
		if a.States == 1 {
			break
		}
		from := r.Intn(a.States - 1)
		arc := api.Arc{From: from, To: from + 1 + r.Intn(a.States-1-from), Letter: letters[r.Intn(len(letters))]}
		if !seen[arc] {
			seen[arc] = true
			arc.Cost = r.Intn(costs)
			a.Arcs = append(a.Arcs, arc)
		}
	}
	sortArcs(a.Arcs)
	for q := range a.States {
		if r.Intn(3) == 0 || q == a.States-1 && r.Intn(4) > 0 {
			a.Ends = append(a.Ends, api.End{State: q, Cost: r.Intn(costs)})
		}
	}
	return a
}

// sortArcs puts arcs into the order that valid automata require.
func sortArcs(arcs []api.Arc) {
	slices.SortFunc(arcs, func(p, q api.Arc) int {
		return cmp.Or(cmp.Compare(p.From, q.From), cmp.Compare(p.To, q.To), cmp.Compare(p.Letter, q.Letter))
	})
}

// smallAuto returns an automaton that accepts few strings.
func smallAuto(r *rand.Rand) api.Auto { return randomAuto(r, 7, 12, 4, "ab-") }

// randomCells returns valid cells.
func randomCells(r *rand.Rand, most int) []api.Cell {
	var cells []api.Cell
	for range r.Intn(most + 1) {
		var cell api.Cell
		seen := map[string]bool{}
		for range 1 + r.Intn(4) {
			s := ""
			for range r.Intn(4) {
				s += string("ab 0"[r.Intn(4)])
			}
			if !seen[s] {
				seen[s] = true
				cell.Alts = append(cell.Alts, api.Alt{Letters: s, Cost: r.Intn(3) * r.Intn(500)})
			}
		}
		cells = append(cells, cell)
	}
	return cells
}

// must returns a result that has to be without error.
func must[T any](t *testing.T, name string) func(x T, e api.Errno) T {
	return func(x T, e api.Errno) T {
		t.Helper()
		if e != api.OK {
			t.Fatalf("%s: error %d", name, e)
		}
		return x
	}
}

func parse(t *testing.T, s string) []api.Cell {
	t.Helper()
	return must[[]api.Cell](t, "Parse "+s)(reading.Parse(s))
}

func of(t *testing.T, s string) api.Auto {
	t.Helper()
	return must[api.Auto](t, "Of "+s)(reading.Of(parse(t, s)))
}

func word(t *testing.T, s string, cost int) api.Auto {
	t.Helper()
	return must[api.Auto](t, "Word "+s)(reading.Word(s, cost))
}

func normal(t *testing.T, a api.Auto) api.Auto {
	t.Helper()
	return must[api.Auto](t, "Normal")(reading.Normal(a))
}

// same compares automata.
func same(a, b api.Auto) bool {
	return a.States == b.States && slices.Equal(a.Arcs, b.Arcs) && slices.Equal(a.Ends, b.Ends)
}

// isZero reports whether an automaton is the zero value.
func isZero(a api.Auto) bool { return a.States == 0 && len(a.Arcs) == 0 && len(a.Ends) == 0 }

// copyOf returns a copy that shares no memory.
func copyOf(a api.Auto) api.Auto {
	return api.Auto{States: a.States, Arcs: slices.Clone(a.Arcs), Ends: slices.Clone(a.Ends)}
}
