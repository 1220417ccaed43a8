package places_test

import (
	"cmp"
	"maps"
	"math/rand"
	"slices"
	"strings"
	"testing"

	"restante/api"
	"restante/places"
	"restante/reading"
)

// The oracles of the tests follow the definitions of the chapter word by word, without any of the package's own code.

// past is the state after some events.
type past struct {
	parent map[int]int // of each place that exists
	goesOn map[int]int // of each place that has ceased
	uses   map[int][]api.NameUse
}

func (p past) copied() past {
	q := past{maps.Clone(p.parent), maps.Clone(p.goesOn), map[int][]api.NameUse{}}
	for place, uses := range p.uses {
		q.uses[place] = slices.Clone(uses)
	}
	return q
}

// pastOf returns the state after events.
func pastOf(events []api.PlaceEvent) past {
	p := past{map[int]int{}, map[int]int{}, map[int][]api.NameUse{}}
	for _, e := range events {
		p.change(e)
	}
	return p
}

// pastOn returns the state on a day.
func pastOn(events []api.PlaceEvent, day int) past {
	var until []api.PlaceEvent
	for _, e := range events {
		if e.Day <= day && day <= 100000 {
			until = append(until, e)
		}
	}
	return pastOf(until)
}

func (p past) exists(place int) bool {
	_, is := p.parent[place]
	return is
}

func (p past) founded(place int) bool { return p.uses[place] != nil }

// change follows the list of the section Types.
func (p past) change(e api.PlaceEvent) {
	switch e.Kind {
	case 1:
		p.parent[e.Place] = e.Other
		p.uses[e.Place] = []api.NameUse{{Name: e.Name, Kind: 1, From: e.Day, Until: 100001}}
	case 2:
		last := -1
		for i, use := range p.uses[e.Place] {
			if use.Kind == 1 {
				last = i
			}
		}
		p.uses[e.Place][last].Until = min(e.Day+3650, 100001)
		p.uses[e.Place] = append(p.uses[e.Place], api.NameUse{Name: e.Name, Kind: 1, From: e.Day, Until: 100001})
	case 3:
		p.parent[e.Place] = e.Other
	case 4:
		for _, name := range p.names(e.Place, e.Day) {
			if !slices.ContainsFunc(p.uses[e.Other], func(u api.NameUse) bool { return u.Name == name && u.Kind == 2 && u.Until == 100001 }) {
				p.uses[e.Other] = append(p.uses[e.Other], api.NameUse{Name: name, Kind: 2, From: e.Day, Until: 100001})
			}
		}
		for i, use := range p.uses[e.Place] {
			if use.Until > e.Day {
				p.uses[e.Place][i].Until = e.Day
			}
		}
		delete(p.parent, e.Place)
		for place, around := range p.parent {
			if around == e.Place {
				p.parent[place] = e.Other
			}
		}
		p.goesOn[e.Place] = e.Other
	case 5:
		p.uses[e.Place] = append(p.uses[e.Place], api.NameUse{Name: e.Name, Kind: 2, From: e.Day, Until: 100001})
	}
}

// names returns the names in use of a place that exists.
func (p past) names(place, day int) []string {
	var names []string
	for _, use := range p.uses[place] {
		if p.exists(place) && use.From <= day && day < use.Until && !slices.Contains(names, use.Name) {
			names = append(names, use.Name)
		}
	}
	slices.Sort(names)
	return names
}

func (p past) name(place int) string {
	name := ""
	for _, use := range p.uses[place] {
		if p.exists(place) && use.Kind == 1 {
			name = use.Name
		}
	}
	return name
}

// contains is defined from above: by the places whose parent is a.
func (p past) contains(a, b int) bool {
	if !p.exists(a) || !p.exists(b) {
		return false
	}
	if a == b {
		return true
	}
	for c, around := range p.parent {
		if around == a && p.contains(c, b) {
			return true
		}
	}
	return false
}

func (p past) level(place int) int {
	if p.parent[place] == 0 {
		return 1
	}
	return 1 + p.level(p.parent[place])
}

func (p past) all() []int { return slices.Sorted(maps.Keys(p.parent)) }

func (p past) inside(place int) []int {
	var list []int
	for _, b := range p.all() {
		if p.contains(place, b) {
			list = append(list, b)
		}
	}
	return list
}

func (p past) path(place int) []int {
	var list []int
	for p.parent[place] != 0 {
		place = p.parent[place]
		list = append(list, place)
	}
	return list
}

func (p past) common(a, b int) int {
	best := 0
	for _, c := range p.all() {
		if p.contains(c, a) && p.contains(c, b) && (best == 0 || p.level(c) > p.level(best)) {
			best = c
		}
	}
	return best
}

func (p past) goesOnIn(place int) int {
	if p.exists(place) || !p.founded(place) {
		if p.exists(place) {
			return place
		}
		return 0
	}
	return p.goesOnIn(p.goesOn[place])
}

func (p past) called(name string, day int) []int {
	var list []int
	for _, place := range p.all() {
		if slices.Contains(p.names(place, day), name) {
			list = append(list, place)
		}
	}
	return list
}

// formError is the first error of B2.
func formError(e api.PlaceEvent) api.Errno {
	isName := len(e.Name) >= 1 && len(e.Name) <= 24 && strings.Trim(e.Name, " ") == e.Name && strings.Trim(e.Name, "abcdefghijklmnopqrstuvwxyz0123456789 -") == ""
	isId := func(n int) bool { return 1 <= n && n <= 1000000 }
	if e.Day < 0 || e.Day > 100000 || !isId(e.Place) {
		return api.ErrArg
	}
	switch {
	case e.Kind == 1 && (e.Other == 0 || isId(e.Other)), e.Kind == 2 && e.Other == 0, e.Kind == 5 && e.Other == 0:
		if !isName {
			return api.ErrForm
		}
		return api.OK
	case e.Kind == 3 && (e.Other == 0 || isId(e.Other)) && e.Name == "", e.Kind == 4 && isId(e.Other) && e.Other != e.Place && e.Name == "":
		return api.OK
	}
	return api.ErrArg
}

// addError is the error of adding an event after others: the errors 7 and 9 are found by changing the state.
func addError(events []api.PlaceEvent, e api.PlaceEvent) api.Errno {
	if f := formError(e); f != api.OK {
		return f
	}
	if len(events) >= 400 {
		return api.ErrLimit
	}
	if len(events) > 0 && events[len(events)-1].Day > e.Day {
		return api.ErrTime
	}
	p := pastOf(events)
	gone := func(place int) api.Errno {
		if p.exists(place) {
			return api.OK
		}
		if p.founded(place) {
			return api.ErrGone
		}
		return api.ErrNone
	}
	if e.Kind == 1 && p.founded(e.Place) {
		return api.ErrTwice
	}
	if e.Kind != 1 && gone(e.Place) != api.OK {
		return gone(e.Place)
	}
	if e.Other != 0 && gone(e.Other) != api.OK {
		return gone(e.Other)
	}
	if (e.Kind == 3 || e.Kind == 4) && p.contains(e.Place, e.Other) {
		return api.ErrLoop
	}
	next := p.copied()
	next.change(e)
	for _, place := range next.all() {
		if next.level(place) > 8 {
			return api.ErrDeep
		}
	}
	if e.Kind == 2 && p.name(e.Place) == e.Name {
		return api.ErrTwice
	}
	if e.Kind == 5 && slices.ContainsFunc(p.uses[e.Place], func(u api.NameUse) bool { return u.Name == e.Name && u.Until == 100001 }) {
		return api.ErrTwice
	}
	for _, uses := range next.uses {
		if len(uses) > 16 {
			return api.ErrLimit
		}
	}
	return api.OK
}

// derivations returns all derivations from a name.
func derivations(name string, l []api.Spell) [][]api.SpellUse {
	var list [][]api.SpellUse
	var from func(at int, uses []api.SpellUse)
	from = func(at int, uses []api.SpellUse) {
		list = append(list, slices.Clone(uses))
		for next := at; next < len(name); next++ {
			for i, rule := range l {
				if strings.HasPrefix(name[next:], rule.From) {
					from(next+len(rule.From), append(slices.Clone(uses), api.SpellUse{At: next, Rule: i}))
				}
			}
		}
	}
	from(0, nil)
	return list
}

// written returns what a derivation writes, and its cost.
func written(name string, l []api.Spell, uses []api.SpellUse) (string, int) {
	text, cost := name, 0
	for _, use := range slices.Backward(uses) { // from the end on, so that the indices stay right
		rule := l[use.Rule]
		text = text[:use.At] + rule.To + text[use.At+len(rule.From):]
		cost += rule.Cost
	}
	return text, cost
}

// derived is the cost of a spelling, and the first derivation of this cost.
type derived struct {
	cost int
	uses []api.SpellUse
}

func compareUses(a, b []api.SpellUse) int {
	for i := range min(len(a), len(b)) {
		if c := cmp.Or(cmp.Compare(a[i].At, b[i].At), cmp.Compare(a[i].Rule, b[i].Rule)); c != 0 {
			return c
		}
	}
	return cmp.Compare(len(a), len(b))
}

// spellings returns all spellings of a name.
func spellings(name string, l []api.Spell) map[string]derived {
	all := map[string]derived{}
	for _, uses := range derivations(name, l) {
		text, cost := written(name, l, uses)
		old, met := all[text]
		if !met || cost < old.cost || cost == old.cost && compareUses(uses, old.uses) < 0 {
			all[text] = derived{cost, uses}
		}
	}
	return all
}

// accepted returns the strings that an automaton accepts, with their costs.
func accepted(a api.Auto) map[string]int {
	all := map[string]int{}
	var from func(state int, text string, cost int)
	from = func(state int, text string, cost int) {
		for _, end := range a.Ends {
			if end.State == state {
				if old, met := all[text]; !met || cost+end.Cost < old {
					all[text] = cost + end.Cost
				}
			}
		}
		for _, arc := range a.Arcs {
			if arc.From == state {
				from(arc.To, text+string(rune(arc.Letter)), cost+arc.Cost)
			}
		}
	}
	from(0, "", 0)
	return all
}

// fitOf returns the cost for which an automaton fits one of some names.
func fitOf(names []string, a api.Auto, l []api.Spell) (int, bool) {
	least, fits := 0, false
	texts := accepted(a)
	for _, name := range names {
		for text, d := range spellings(name, l) {
			if cost, is := texts[text]; is && (!fits || cost+d.cost < least) {
				least, fits = cost+d.cost, true
			}
		}
	}
	return least, fits
}

func apartOf(a, b []string, l []api.Spell) bool {
	for _, x := range a {
		for _, y := range b {
			theirs := spellings(y, l)
			for text := range spellings(x, l) {
				if _, is := theirs[text]; is {
					return false
				}
			}
		}
	}
	return true
}

// Helpers of all tests.

// event reads a line.
func event(t *testing.T, line string) api.PlaceEvent {
	t.Helper()
	e, f := places.Read(line)
	if f != api.OK {
		t.Fatalf("Read(%q) returns the error %d", line, f)
	}
	return e
}

// open returns the gazetteer of some lines.
func open(t *testing.T, lines ...string) *places.Gazetteer {
	t.Helper()
	var events []api.PlaceEvent
	for _, line := range lines {
		events = append(events, event(t, line))
	}
	g, i, f := places.Open(events)
	if f != api.OK {
		t.Fatalf("Open refuses the event %d, %q, with the error %d", i, lines[i], f)
	}
	return g
}

func sample(t *testing.T) *places.Gazetteer {
	t.Helper()
	return open(t, "10 found 1 0 lowland", "10 found 2 1 old haven", "20 found 3 1 newhaven", "100 rename 2 haven", "200 merge 3 2")
}

func sampleRules() []api.Spell {
	return []api.Spell{{From: "v", To: "f", Cost: 2}, {From: "en", To: "n", Cost: 3}}
}

// equal compares slices; nil and empty ones are equivalent.
func equal[T comparable](t *testing.T, what string, got, want []T) {
	t.Helper()
	if !slices.Equal(got, want) {
		t.Fatalf("%s: got %v; want %v", what, got, want)
	}
}

func same[T comparable](t *testing.T, what string, got, want T) {
	t.Helper()
	if got != want {
		t.Fatalf("%s: got %v; want %v", what, got, want)
	}
}

func word(t *testing.T, s string, cost int) api.Auto {
	t.Helper()
	a, e := reading.Word(s, cost)
	same(t, "Word", e, api.OK)
	return a
}

func pick[T any](r *rand.Rand, list ...T) T { return list[r.Intn(len(list))] }

// randomEvent returns an event that is often refused; day is that of the last event.
func randomEvent(r *rand.Rand, day, ids int) api.PlaceEvent {
	e := api.PlaceEvent{Day: day + pick(r, 0, 0, 1, 1, 2, 5, 3649, 3650), Kind: uint8(pick(r, 1, 1, 1, 2, 2, 3, 3, 4, 5)), Place: 1 + r.Intn(ids)}
	if e.Kind == 1 || e.Kind == 3 || e.Kind == 4 {
		e.Other = r.Intn(ids + 1)
	}
	if e.Kind == 1 || e.Kind == 2 || e.Kind == 5 {
		e.Name = pick(r, "a", "ab", "b", "ba", "aba", "c d")
	}
	switch r.Intn(40) {
	case 0:
		e.Day -= 3
	case 1:
		e.Other = r.Intn(ids + 1)
	case 2:
		e.Name = pick(r, "", " ", "a ", "A", "x")
	case 3:
		e.Kind = uint8(r.Intn(8))
	}
	return e
}

// randomEvents returns events that are accepted one after the other.
func randomEvents(r *rand.Rand, tries, ids int) []api.PlaceEvent {
	g := places.New()
	day := r.Intn(3)
	for range tries {
		e := randomEvent(r, day, ids)
		if g.Add(e) == api.OK {
			day = e.Day
		}
	}
	return g.Events()
}

// daysOf returns the days on which something may be different, and their neighbours.
func daysOf(events []api.PlaceEvent) []int {
	days := map[int]bool{-1: true, 0: true, 100000: true, 100001: true}
	for _, e := range events {
		for _, day := range []int{e.Day - 1, e.Day, e.Day + 1, e.Day + 3649, e.Day + 3650} {
			days[day] = true
		}
	}
	return slices.Sorted(maps.Keys(days))
}

// randomRules returns a valid list of rules over few letters.
func randomRules(r *rand.Rand, n int) []api.Spell {
	side := func() string {
		s := ""
		for range 1 + r.Intn(3) {
			s += pick(r, "a", "b", "b", "c")
		}
		return s
	}
	var l []api.Spell
	for range n {
		rule := api.Spell{From: side()[:1+r.Intn(1)], To: side(), Cost: r.Intn(3)}
		if r.Intn(2) == 0 {
			rule.From = side()
		}
		if places.CheckSpells(append(slices.Clone(l), rule)) == api.OK {
			l = append(l, rule)
		}
	}
	return l
}

func randomName(r *rand.Rand) string {
	s := ""
	for range 1 + r.Intn(5) {
		s += pick(r, "a", "b", "c")
	}
	return s
}

// randomAuto returns a valid automaton, which need not be a normal form.
func randomAuto(r *rand.Rand) api.Auto {
	a := api.Auto{States: 1 + r.Intn(5)}
	for from := range a.States {
		for to := from + 1; to < a.States; to++ {
			for _, letter := range []byte("abc") {
				if r.Intn(3) == 0 {
					a.Arcs = append(a.Arcs, api.Arc{From: from, To: to, Letter: letter, Cost: r.Intn(4)})
				}
			}
		}
		if r.Intn(2) == 0 {
			a.Ends = append(a.Ends, api.End{State: from, Cost: r.Intn(4)})
		}
	}
	return a
}
