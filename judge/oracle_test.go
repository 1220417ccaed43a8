package judge_test

import (
	"cmp"
	"fmt"
	"maps"
	"slices"
	"strings"
	"testing"

	"restante/api"
	"restante/people"
	"restante/places"
	"restante/reading"
	"restante/seals"
)

// The oracles of the tests follow the definitions of the chapter word by word, string by string and set by set, without any of the package's own code; they trust the packages of the lower layers.

type pair = api.Candidate

func same[T comparable](t *testing.T, what string, got, want T) {
	t.Helper()
	if got != want {
		t.Fatalf("%s: got %v; want %v", what, got, want)
	}
}

// show is a text of values in which nil and empty slices are the same.
func show(values ...any) string { return fmt.Sprintf("%+v", values) }

// equal compares values by their texts.
func equal(t *testing.T, what string, got, want any) {
	t.Helper()
	if show(got) != show(want) {
		t.Fatalf("%s: got %+v; want %+v", what, got, want)
	}
}

func in(n, least, most int) bool { return n >= least && n <= most }

func before(a, b api.Look) bool { return a.Layer < b.Layer || a.Layer == b.Layer && a.Piece < b.Piece }

func beforePair(a, b pair) bool {
	return a.Person < b.Person || a.Person == b.Person && a.Place < b.Place
}

// ascending reports whether each element of a list comes before the next one.
func ascending[T any](list []T, before func(a, b T) bool) bool {
	for i := range list {
		if i > 0 && !before(list[i-1], list[i]) {
			return false
		}
	}
	return true
}

// beforeSet compares lists of looks.
func beforeSet(a, b []api.Look) bool {
	for i := range a {
		if i == len(b) {
			return false
		}
		if a[i] != b[i] {
			return before(a[i], b[i])
		}
	}
	return len(a) < len(b)
}

func allLooks(t api.Thing) []api.Look {
	var looks []api.Look
	for i := range t.Layers {
		for j := range t.Layers[i].Pieces {
			looks = append(looks, api.Look{Layer: i + 1, Piece: j})
		}
	}
	return looks
}

func roleOf(kind uint8) int {
	return map[uint8]int{1: 1, 2: 1, 3: 1, 4: 2, 5: 2, 6: 2}[kind]
}

func kindAt(c api.Case, l api.Look) uint8 { return c.Thing.Layers[l.Layer-1].Pieces[l.Piece].Kind }

// having returns those of some looks that have a role.
func having(c api.Case, looks []api.Look, role int) []api.Look {
	return slices.DeleteFunc(slices.Clone(looks), func(l api.Look) bool { return roleOf(kindAt(c, l)) != role })
}

func isSetOf(t api.Thing, looks []api.Look) bool {
	all := allLooks(t)
	return ascending(looks, before) && !slices.ContainsFunc(looks, func(l api.Look) bool { return !slices.Contains(all, l) })
}

func knownOf(b api.Books, day int) api.Books {
	k := api.Books{Spells: b.Spells}
	for _, e := range b.Places {
		if e.Day > day {
			break
		}
		k.Places = append(k.Places, e)
	}
	for _, x := range b.People {
		if x.Day > day {
			break
		}
		k.People = append(k.People, x)
	}
	return k
}

// caseError follows the five conditions.
func caseError(c api.Case) api.Errno {
	if !in(c.Day, 0, 100000) || !in(c.Thing.Day, 0, 100000) || c.Thing.Day > c.Day || !in(c.Opened, 0, 3) {
		return api.ErrArg
	}
	for _, w := range c.Weights {
		if !in(w, 0, 1000) {
			return api.ErrArg
		}
	}
	if e := seals.CheckThing(c.Thing); e != api.OK {
		return e
	}
	if c.Opened > len(c.Thing.Layers) || !isSetOf(c.Thing, c.Made) || !isSetOf(c.Thing, c.May) {
		return api.ErrArg
	}
	deepest := 0
	for _, l := range c.Made {
		if slices.Contains(c.May, l) {
			return api.ErrArg
		}
		deepest = max(deepest, l.Layer)
	}
	if deepest != c.Opened {
		return api.ErrArg
	}
	k := knownOf(c.Books, c.Day)
	_, _, placesError := places.Open(k.Places)
	_, peopleError := people.Check(k.People)
	if e := cmp.Or(placesError, places.CheckSpells(k.Spells), peopleError); e != api.OK {
		return e
	}
	return textError(c, k)
}

// textError follows the last condition.
func textError(c api.Case, k api.Books) api.Errno {
	for _, x := range k.People {
		if x.Kind == api.EntryName {
			if _, e := places.Spelled(x.Name, k.Spells); e != api.OK {
				return e
			}
		}
	}
	for _, x := range k.Places {
		if x.Name != "" {
			if _, e := places.Spelled(x.Name, k.Spells); e != api.OK {
				return e
			}
		}
	}
	for _, l := range c.Made {
		if _, e := reading.Of(c.Thing.Layers[l.Layer-1].Pieces[l.Piece].Cells); e != api.OK {
			return e
		}
	}
	return api.OK
}

// roleError is the error of a function that takes a role.
func roleError(c api.Case, role int) api.Errno {
	if e := caseError(c); e != api.OK || role == 1 || role == 2 {
		return e
	}
	return api.ErrArg
}

// kindError is the error of a function that takes a kind.
func kindError(c api.Case, kind uint8) api.Errno {
	if e := caseError(c); e != api.OK || in(int(kind), 1, 6) {
		return e
	}
	return api.ErrArg
}

// language is a set of strings with their costs.
type language map[string]int

func (l language) put(s string, cost int) {
	if old, met := l[s]; !met || cost < old {
		l[s] = cost
	}
}

// readings returns what cells may say.
func readings(cells []api.Cell) language {
	l := language{"": 0}
	for _, cell := range cells {
		next := language{}
		for s, cost := range l {
			for _, alt := range cell.Alts {
				next.put(s+alt.Letters, cost+alt.Cost)
			}
		}
		l = next
	}
	return l
}

// spellings returns how a name may be written.
func spellings(name string, l []api.Spell) language {
	if name == "" {
		return language{"": 0}
	}
	all := language{}
	for s, cost := range spellings(name[1:], l) {
		all.put(name[:1]+s, cost)
	}
	for _, rule := range l {
		if strings.HasPrefix(name, rule.From) {
			for s, cost := range spellings(name[len(rule.From):], l) {
				all.put(rule.To+s, rule.Cost+cost)
			}
		}
	}
	return all
}

// oracle says what follows from a valid case. What is derived from strings is derived once.
type oracle struct {
	c       api.Case
	k       api.Books
	g       *places.Gazetteer
	written map[string]language
	apart   map[string]bool
	rank    map[int][]api.Scored
}

func oracleOf(c api.Case) *oracle {
	k := knownOf(c.Books, c.Day)
	g, _, _ := places.Open(k.Places)
	return &oracle{c, k, g, map[string]language{}, map[string]bool{}, map[int][]api.Scored{}}
}

func (o *oracle) candidates() []pair {
	var list []pair
	for _, who := range people.Pairs(o.k.People, o.c.Thing.Day) {
		if o.g.Exists(who.Place, o.c.Thing.Day) {
			list = append(list, who)
		}
	}
	return list
}

func (o *oracle) names(kind uint8, who pair) []string {
	names := map[string]bool{}
	put := func(list []string) {
		for _, name := range list {
			names[name] = true
		}
	}
	switch kind {
	case 1, 4:
		put(people.Names(o.k.People, who.Person, o.c.Thing.Day))
	case 2, 5:
		put(o.g.Names(who.Place, o.c.Thing.Day))
	case 3, 6:
		for _, around := range o.g.Path(who.Place, o.c.Thing.Day) {
			put(o.g.Names(around, o.c.Thing.Day))
		}
	}
	return slices.Sorted(maps.Keys(names))
}

// texts returns the spellings of all names of a pair for a kind.
func (o *oracle) texts(kind uint8, who pair) language {
	all := language{}
	for _, name := range o.names(kind, who) {
		if o.written[name] == nil {
			o.written[name] = spellings(name, o.k.Spells)
		}
		for s, cost := range o.written[name] {
			all.put(s, cost)
		}
	}
	return all
}

// cheapest returns the first one of the cheapest strings of both languages.
func cheapest(x, y language) (api.Reading, bool) {
	best, found := api.Reading{}, false
	for s, cost := range x {
		other, is := y[s]
		sum := cost + other
		if is && (!found || sum < best.Cost || sum == best.Cost && s < best.Text) {
			best, found = api.Reading{Text: s, Cost: sum}, true
		}
	}
	return best, found
}

func (o *oracle) fits(who pair, l api.Look) (int, bool) {
	best, found := cheapest(readings(o.c.Thing.Layers[l.Layer-1].Pieces[l.Piece].Cells), o.texts(kindAt(o.c, l), who))
	return best.Cost, found
}

func (o *oracle) common(kind uint8, x, y pair) (api.Reading, bool) {
	return cheapest(o.texts(kind, x), o.texts(kind, y))
}

func (o *oracle) areApart(kind uint8, x, y pair) bool {
	key := fmt.Sprint(kind, x, y)
	if _, known := o.apart[key]; !known {
		_, common := o.common(kind, x, y)
		o.apart[key] = !common
	}
	return o.apart[key]
}

// ranked returns the candidates left with their costs, by candidates.
func (o *oracle) ranked(role int) []api.Scored {
	list, known := o.rank[role]
	if known {
		return list
	}
candidates:
	for _, who := range o.candidates() {
		sum := 0
		for _, l := range having(o.c, o.c.Made, role) {
			cost, fits := o.fits(who, l)
			if !fits {
				continue candidates
			}
			sum += cost
		}
		list = append(list, api.Scored{Who: who, Cost: sum})
	}
	o.rank[role] = list
	return list
}

func (o *oracle) left(role int) []pair {
	var list []pair
	for _, x := range o.ranked(role) {
		list = append(list, x.Who)
	}
	return list
}

func personsOf(l []pair) []int {
	var persons []int
	for _, who := range l {
		persons = append(persons, who.Person)
	}
	return slices.Compact(slices.Sorted(slices.Values(persons)))
}

func (o *oracle) count(role int) int { return min(2, len(personsOf(o.left(role)))) }

func (o *oracle) certificate(role int) api.Cert {
	x := api.Cert{Left: o.left(role)}
	for _, who := range o.candidates() {
		for _, l := range having(o.c, o.c.Made, role) {
			if _, fits := o.fits(who, l); !fits {
				x.Fell = append(x.Fell, api.Fell{Who: who, By: l})
				break
			}
		}
	}
	return x
}

func (o *oracle) certified(role int, x api.Cert) bool {
	if !ascending(x.Left, beforePair) || !ascending(x.Fell, func(a, b api.Fell) bool { return beforePair(a.Who, b.Who) }) {
		return false
	}
	times := map[pair]int{}
	for _, who := range x.Left {
		times[who]++
	}
	for _, f := range x.Fell {
		times[f.Who]++
	}
	candidates := o.candidates()
	for _, who := range candidates {
		if times[who] != 1 {
			return false
		}
	}
	if len(times) != len(candidates) {
		return false
	}
	made := having(o.c, o.c.Made, role)
	for _, who := range x.Left {
		for _, l := range made {
			if _, fits := o.fits(who, l); !fits {
				return false
			}
		}
	}
	for _, f := range x.Fell {
		if !slices.Contains(made, f.By) {
			return false
		}
		if _, fits := o.fits(f.Who, f.By); fits {
			return false
		}
	}
	return true
}

// told reports whether a set of looks has one that has the role and tells two pairs apart.
func (o *oracle) told(role int, looks []api.Look, x, y pair) bool {
	return slices.ContainsFunc(having(o.c, looks, role), func(l api.Look) bool { return o.areApart(kindAt(o.c, l), x, y) })
}

func (o *oracle) separates(role int, looks []api.Look) (x, y pair, ok bool) {
	left := o.left(role)
	for _, x := range left {
		for _, y := range left {
			if beforePair(x, y) && x.Person != y.Person && !o.told(role, looks, x, y) {
				return x, y, false
			}
		}
	}
	return pair{}, pair{}, true
}

func (o *oracle) usable(role int) []api.Look { return having(o.c, o.c.May, role) }

// sets returns all sets of usable looks, in their order.
func (o *oracle) sets(role int) [][]api.Look {
	all := [][]api.Look{nil}
	for _, l := range o.usable(role) {
		for _, s := range all {
			all = append(all, append(slices.Clone(s), l))
		}
	}
	slices.SortFunc(all, func(a, b []api.Look) int {
		if beforeSet(a, b) {
			return -1
		}
		return 1
	})
	return all
}

func (o *oracle) intrusion(looks []api.Look) int {
	n, deepest := len(looks), 0
	for _, l := range looks {
		deepest = max(deepest, l.Layer)
	}
	for layer := o.c.Opened + 1; layer <= deepest; layer++ {
		n += o.c.Weights[layer-1]
	}
	return n
}

// leastSet returns the first set of the least intrusion of all sets that are plans.
func (o *oracle) leastSet(role int) (best []api.Look, found bool) {
	for _, s := range o.sets(role) {
		if _, _, ok := o.separates(role, s); ok && (!found || o.intrusion(s) < o.intrusion(best)) {
			best, found = s, true
		}
	}
	return best, found
}

func (o *oracle) least(role int) (api.Plan, bool) {
	best, found := o.leastSet(role)
	if !found {
		return api.Plan{}, false
	}
	p := api.Plan{Looks: best, Intrusion: o.intrusion(best)}
	reached := map[string]bool{show([]api.Look(nil)): true}
	for range len(o.usable(role)) + 1 { // as often as sets may grow
		for _, s := range o.sets(role) {
			x, y, _ := o.separates(role, s)
			if !reached[show(s)] || o.intrusion(s) >= p.Intrusion {
				continue
			}
			for _, l := range o.usable(role) {
				if o.areApart(kindAt(o.c, l), x, y) {
					reached[show(plus(s, l))] = true
				}
			}
		}
	}
	for _, s := range o.sets(role) {
		if reached[show(s)] && o.intrusion(s) < p.Intrusion {
			x, y, _ := o.separates(role, s)
			p.Rungs = append(p.Rungs, api.Rung{Looks: s, A: x, B: y})
		}
	}
	return p, true
}

// plus returns a set with one more look.
func plus(s []api.Look, l api.Look) []api.Look {
	s = append(slices.Clone(s), l)
	slices.SortFunc(s, func(a, b api.Look) int { return cmp.Or(cmp.Compare(a.Layer, b.Layer), cmp.Compare(a.Piece, b.Piece)) })
	return s
}

func (o *oracle) isUsable(role int, looks []api.Look) bool {
	return ascending(looks, before) && !slices.ContainsFunc(looks, func(l api.Look) bool { return !slices.Contains(o.usable(role), l) })
}

func (o *oracle) justified(role int, p api.Plan) bool {
	if !o.isUsable(role, p.Looks) || p.Intrusion != o.intrusion(p.Looks) {
		return false
	}
	if _, _, ok := o.separates(role, p.Looks); !ok {
		return false
	}
	rungs := map[string]bool{}
	for _, x := range p.Rungs {
		if !o.isUsable(role, x.Looks) {
			return false
		}
		rungs[show(x.Looks)] = true
	}
	if !ascending(p.Rungs, func(a, b api.Rung) bool { return beforeSet(a.Looks, b.Looks) }) {
		return false
	}
	left := o.left(role)
	for _, x := range p.Rungs {
		if !slices.Contains(left, x.A) || !slices.Contains(left, x.B) || x.A.Person == x.B.Person || o.told(role, x.Looks, x.A, x.B) {
			return false
		}
		for _, l := range o.usable(role) {
			if !slices.Contains(x.Looks, l) && o.areApart(kindAt(o.c, l), x.A, x.B) {
				next := plus(x.Looks, l)
				if o.intrusion(next) < p.Intrusion && !rungs[show(next)] {
					return false
				}
			}
		}
	}
	return p.Intrusion == 0 || rungs[show([]api.Look(nil))]
}

// verdict follows the five cases.
func (o *oracle) verdict() api.Verdict {
	v := api.Verdict{To: o.certificate(1), From: o.certificate(2)}
	send := func(who pair, sender int) {
		v.Who = who
		v.Route, _ = people.Follow(o.k.People, who, sender, o.c.Day)
		if v.Route.Kind == api.RouteHouse {
			v.Place = o.g.GoesOn(v.Route.End.Place, o.c.Day)
		}
	}
	if o.count(1) == 1 {
		v.Kind = 1
		sender := 0
		if o.count(2) == 1 {
			sender = o.left(2)[0].Person
		}
		send(o.left(1)[0], sender)
		return v
	}
	if o.count(2) == 1 {
		v.Kind = 2
		send(o.left(2)[0], 0)
		return v
	}
	for role := 1; role <= 2; role++ {
		if len(o.left(role)) <= 24 {
			if p, is := o.least(role); is && len(p.Looks) > 0 {
				v.Kind, v.Plan, v.Look = 3, p, p.Looks[0]
				return v
			}
		}
	}
	v.Kind = 4
	if len(o.left(1)) > 24 || len(o.left(2)) > 24 {
		v.Kind = 5
	}
	return v
}

// approved compares a verdict with that of the five cases, but for what may differ: the plan, and whom a certificate names first.
func (o *oracle) approved(v api.Verdict) bool {
	want := o.verdict()
	if !o.certified(1, v.To) || !o.certified(2, v.From) {
		return false
	}
	want.To, want.From = v.To, v.From
	if want.Kind == 3 {
		role := roleOf(kindAt(o.c, want.Look))
		if !o.justified(role, v.Plan) || len(v.Plan.Looks) == 0 {
			return false
		}
		want.Plan, want.Look = v.Plan, v.Plan.Looks[0]
	}
	return show(v) == show(want)
}
