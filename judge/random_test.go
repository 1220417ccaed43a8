package judge_test

import (
	"math"
	"math/rand"
	"slices"
	"strings"
	"testing"

	"restante/api"
	"restante/judge"
	"restante/people"
	"restante/places"
)

func pick[T any](r *rand.Rand, list ...T) T { return list[r.Intn(len(list))] }

// extremes are numbers that few fields may have.
func extremes() []int {
	return []int{math.MinInt, math.MinInt + 1, -100001, -1, 0, 1, 2, 3, 4, 5, 8, 9, 24, 1000, 1001, 100000, 100001, 1000001, math.MaxInt32, math.MaxInt - 1, math.MaxInt}
}

func randomName(r *rand.Rand) string {
	return pick(r, "ann", "anna", "an", "bo", "bob", "ban", "do", "dan", "ann lee", "nan")
}

func randomPlaceName(r *rand.Rand) string {
	return pick(r, "ay", "ayt", "by", "bay", "b-ay", "north", "nort", "a", "day")
}

func randomSpells(r *rand.Rand) []api.Spell {
	var l []api.Spell
	for range r.Intn(6) {
		s := pick(r, api.Spell{From: "nn", To: "n"}, api.Spell{From: "n", To: "m"}, api.Spell{From: "m", To: "n"}, api.Spell{From: "ay", To: "a"}, api.Spell{From: "b", To: "d"}, api.Spell{From: "o", To: "an"}, api.Spell{From: "th", To: "t"}, api.Spell{From: "b", To: "n"}, api.Spell{From: "a", To: "na"})
		s.Cost = pick(r, 0, 1, 2, 3, 50)
		if places.CheckSpells(append(slices.Clone(l), s)) == api.OK {
			l = append(l, s)
		}
	}
	return l
}

// few returns some of what a function returns, so that most of it is met several times, and some of their spellings.
func few(r *rand.Rand, spells []api.Spell, what func(r *rand.Rand) string) []string {
	list := []string{what(r)}
	for range r.Intn(5) {
		name := what(r)
		if len(spells) > 0 && r.Intn(2) == 0 {
			rule := pick(r, spells...)
			name = strings.Replace(pick(r, list...), rule.From, rule.To, 1)
		}
		list = append(list, name)
	}
	return list
}

// randomEvents returns place events of the days from 0 to 30, of which those of the day 0 found some places.
func randomEvents(r *rand.Rand, spells []api.Spell) []api.PlaceEvent {
	g, names := places.New(), few(r, spells, randomPlaceName)
	for i := range 4 + r.Intn(4) {
		g.Add(api.PlaceEvent{Kind: api.PlaceFound, Place: i + 1, Other: r.Intn(min(i, 3) + 1), Name: pick(r, names...)})
	}
	day := 0
	for range r.Intn(8) {
		day = min(day+r.Intn(8), 30)
		e := api.PlaceEvent{Day: day, Kind: uint8(1 + r.Intn(5)), Place: 1 + r.Intn(7)}
		switch e.Kind {
		case api.PlaceFound, api.PlaceRename, api.PlaceAlias:
			e.Name = pick(r, names...)
		default:
			e.Other = 1 + r.Intn(6)
		}
		g.Add(e) // which refuses some
	}
	return g.Events()
}

// randomEntries returns a directory of some persons, of the days from 0 to 30; more is how much may change.
func randomEntries(r *rand.Rand, spells []api.Spell, persons, more int) []api.Entry {
	var l []api.Entry
	put := func(x api.Entry) {
		if longer, e := people.Append(l, x); e == api.OK {
			l = longer
		}
	}
	names := few(r, spells, randomName)
	for p := 1; p <= persons; p++ {
		put(api.Entry{Kind: api.EntryName, Person: p, Name: pick(r, names...)})
		put(api.Entry{Kind: api.EntryLive, Person: p, Place: 1 + r.Intn(7), Until: pick(r, 0, 0, 0, 20)})
	}
	day := 0
	for i := range r.Intn(more + 1) {
		day = min(day+r.Intn(6), 30)
		since := r.Intn(31)
		until := pick(r, 0, 0, since+1+r.Intn(20))
		who, other := 1+r.Intn(persons), 1+r.Intn(persons)
		put(pick(r,
			api.Entry{Day: day, Kind: api.EntryName, Person: who, Since: since, Until: until, Name: pick(r, names...)},
			api.Entry{Day: day, Kind: api.EntryLive, Person: who, Since: since, Until: until, Place: 1 + r.Intn(7)},
			api.Entry{Day: day, Kind: api.EntryDeath, Person: who, Since: since},
			api.Entry{Day: day, Kind: api.EntryHeir, Person: who, Since: since, Until: until, Other: other},
			api.Entry{Day: day, Kind: api.EntryRedirect, Person: who, Since: since, Until: until, Other: other, Order: i + 1, At: pick(r, 0, 0, 1+r.Intn(6))},
			api.Entry{Day: day, Kind: api.EntryRefuse, Person: who, Since: since, Until: until, Other: pick(r, 0, 0, other)}))
	}
	return l
}

// plain is cells that say one string.
func plain(s string) []api.Cell {
	var cells []api.Cell
	for i := range s {
		cells = append(cells, api.Cell{Alts: []api.Alt{{Letters: s[i : i+1]}}})
	}
	return cells
}

// worn returns cells that may say a string, and often others.
func worn(r *rand.Rand, s string) []api.Cell {
	cells := plain(s)
	costs := pick(r, []int{0}, []int{0, 0, 1, 4})
	for i := range cells {
		cell := &cells[i]
		cell.Alts[0].Cost = pick(r, costs...)
		for _, more := range []string{"", "n", "a", "an", "b", "y", "o", "m"} {
			if more != cell.Alts[0].Letters && r.Intn(7) == 0 {
				cell.Alts = append(cell.Alts, api.Alt{Letters: more, Cost: r.Intn(6)})
			}
		}
	}
	return cells
}

// home is where a person lives.
type home struct{ person, place int }

// someHome returns a home that the books say.
func someHome(r *rand.Rand, b api.Books) home {
	var homes []home
	for _, x := range b.People {
		if x.Kind == api.EntryLive {
			homes = append(homes, home{x.Person, x.Place})
		}
	}
	return pick(r, append(homes, home{1, 1})...)
}

// nameFor returns a text that a piece of a kind may have if it is for a home, as far as the books say it.
func nameFor(r *rand.Rand, b api.Books, kind uint8, h home) string {
	names := []string{randomPlaceName(r)}
	parent := map[int]int{}
	for _, e := range b.Places {
		if e.Kind == api.PlaceFound {
			parent[e.Place] = e.Other
		}
	}
	for _, e := range b.Places {
		if e.Name != "" && (kind%3 == 2 && e.Place == h.place || kind%3 == 0 && e.Place == parent[h.place]) {
			names = append(names, e.Name, e.Name)
		}
	}
	if kind%3 == 1 {
		names[0] = randomName(r)
	}
	for _, x := range b.People {
		if kind%3 == 1 && x.Kind == api.EntryName && x.Person == h.person {
			names = append(names, x.Name, x.Name)
		}
	}
	name := pick(r, names...)
	if len(b.Spells) > 0 && r.Intn(3) == 0 {
		rule := pick(r, b.Spells...)
		name = strings.Replace(name, rule.From, rule.To, 1)
	}
	return name
}

// randomPiece returns a piece of a thing from a home to another one.
func randomPiece(r *rand.Rand, b api.Books, to, from home) api.Piece {
	p := api.Piece{Kind: uint8(1 + r.Intn(6))}
	h := to
	if p.Kind > 3 {
		h = from
	}
	p.Cells = worn(r, nameFor(r, b, p.Kind, h))
	return p
}

// randomThing returns a thing with at most this many pieces.
func randomThing(r *rand.Rand, b api.Books, pieces int) api.Thing {
	t := api.Thing{Id: 1 + r.Intn(9), Day: r.Intn(25)}
	to, from := someHome(r, b), someHome(r, b)
	for range 1 + r.Intn(3) {
		var layer api.Layer
		for range r.Intn(min(5, pieces+1)) {
			layer.Pieces = append(layer.Pieces, randomPiece(r, b, to, from))
			pieces--
		}
		t.Layers = append(t.Layers, layer)
	}
	return t
}

// depthOf returns the greatest layer of looks.
func depthOf(looks []api.Look) int {
	deepest := 0
	for _, l := range looks {
		deepest = max(deepest, l.Layer)
	}
	return deepest
}

// randomCase returns a valid case.
func randomCase(r *rand.Rand) api.Case {
	for {
		l := randomSpells(r)
		b := api.Books{Places: randomEvents(r, l), Spells: l, People: randomEntries(r, l, 1+r.Intn(8), 12)}
		c := api.Case{Books: b, Thing: randomThing(r, b, 7), Weights: [3]int{pick(r, 0, 0, 5), pick(r, 0, 2, 20), pick(r, 0, 3, 60)}}
		c.Day = c.Thing.Day + pick(r, 0, 1, 5, 20)
		made := pick(r, 2, 5, 5)
		for _, l := range allLooks(c.Thing) {
			switch {
			case r.Intn(made) == 0:
				c.Made = append(c.Made, l)
			case r.Intn(4) > 0:
				c.May = append(c.May, l)
			}
		}
		c.Opened = depthOf(c.Made)
		if caseError(c) == api.OK {
			return c
		}
	}
}

// copyCase returns a case in new memory.
func copyCase(c api.Case) api.Case {
	c.Made, c.May = slices.Clone(c.Made), slices.Clone(c.May)
	c.Books = api.Books{Places: slices.Clone(c.Books.Places), Spells: slices.Clone(c.Books.Spells), People: slices.Clone(c.Books.People)}
	c.Thing.Layers = slices.Clone(c.Thing.Layers)
	for i := range c.Thing.Layers {
		layer := &c.Thing.Layers[i]
		layer.Pieces, layer.Goods = slices.Clone(layer.Pieces), slices.Clone(layer.Goods)
		for j := range layer.Pieces {
			cells := slices.Clone(layer.Pieces[j].Cells)
			for k := range cells {
				cells[k].Alts = slices.Clone(cells[k].Alts)
			}
			layer.Pieces[j].Cells = cells
		}
	}
	return c
}

// anyOf returns the address of one element of a list, or of one that is nowhere.
func anyOf[T any](r *rand.Rand, list []T) *T {
	if len(list) == 0 {
		return new(T)
	}
	return &list[r.Intn(len(list))]
}

// spoiltCase returns a case of which some fields have any values.
func spoiltCase(r *rand.Rand, c api.Case) api.Case {
	c = copyCase(c)
	for range 1 + r.Intn(2) {
		switch r.Intn(13) {
		case 0:
			c.Day = pick(r, extremes()...)
		case 1:
			c.Opened = pick(r, extremes()...)
		case 2:
			c.Weights[r.Intn(3)] = pick(r, extremes()...)
		case 3:
			c.Thing = spoiltThing(r, c.Thing)
		case 4:
			*anyOf(r, c.Made) = randomLook(r, c.Thing)
		case 5:
			*anyOf(r, c.May) = randomLook(r, c.Thing)
		case 6:
			c.Made = append(c.Made, randomLook(r, c.Thing))
		case 7:
			c.May = append(c.May, randomLook(r, c.Thing))
		case 8:
			c.Made = c.Made[:r.Intn(len(c.Made)+1)]
		case 9:
			slices.Reverse(c.Made)
			slices.Reverse(c.May)
		default:
			c.Books = spoiltBooks(r, c.Books)
		}
	}
	return c
}

func spoiltThing(r *rand.Rand, t api.Thing) api.Thing {
	piece := &api.Piece{}
	if layer := anyOf(r, t.Layers); len(layer.Pieces) > 0 {
		piece = anyOf(r, layer.Pieces)
	}
	switch r.Intn(6) {
	case 0:
		t.Id = pick(r, extremes()...)
	case 1:
		t.Day = pick(r, extremes()...)
	case 2:
		t.Layers = append(t.Layers, make([]api.Layer, r.Intn(3))...)
	case 3:
		t.Layers = t.Layers[:r.Intn(len(t.Layers)+1)]
	case 4:
		piece.Kind = pick(r, uint8(0), 7, 255)
	case 5:
		piece.Cells = pick(r, make([]api.Cell, 1), make([]api.Cell, 33), slices.Repeat(plain("a"), 33), broad())
	}
	return t
}

// broad is valid cells with too many profiles for an automaton.
func broad() []api.Cell {
	var cells []api.Cell
	for i := range 32 {
		cells = append(cells, api.Cell{Alts: []api.Alt{{Letters: "a", Cost: i}, {Letters: "aa", Cost: 3 * i % 7}, {Letters: "aba", Cost: i * i % 11}, {Letters: "b", Cost: 5 * i % 13}, {Letters: "", Cost: 7 * i % 29}}})
	}
	return cells
}

func spoiltBooks(r *rand.Rand, b api.Books) api.Books {
	event, entry, spell := anyOf(r, b.Places), anyOf(r, b.People), anyOf(r, b.Spells)
	name := pick(r, "", "A", " a", "a", "q", strings.Repeat("q", 24), strings.Repeat("q", 25))
	switch r.Intn(11) {
	case 0:
		event.Day = pick(r, extremes()...)
	case 1:
		event.Kind = pick(r, uint8(0), 1, 2, 3, 4, 5, 6, 255)
	case 2:
		event.Place = pick(r, extremes()...)
	case 3:
		event.Name = name
	case 4:
		entry.Day = pick(r, extremes()...)
	case 5:
		entry.Kind = pick(r, uint8(0), 1, 2, 3, 4, 5, 6, 7, 8, 255)
	case 6:
		entry.Person = pick(r, extremes()...)
	case 7:
		entry.Name = name
	case 8:
		entry.Since, entry.Until = pick(r, extremes()...), pick(r, extremes()...)
	case 9:
		spell.Cost = pick(r, extremes()...)
	case 10:
		spell.From = pick(r, "", "A", "n", "nn", "aaa", "aaaa")
	}
	return b
}

// randomLook returns a look that is mostly one of the thing.
func randomLook(r *rand.Rand, t api.Thing) api.Look {
	if looks := allLooks(t); len(looks) > 0 && r.Intn(5) > 0 {
		return pick(r, looks...)
	}
	return api.Look{Layer: pick(r, extremes()...), Piece: pick(r, extremes()...)}
}

// randomPair returns a pair that is mostly a candidate.
func randomPair(r *rand.Rand, o *oracle) pair {
	if l := o.candidates(); len(l) > 0 && r.Intn(4) > 0 {
		return pick(r, l...)
	}
	return pick(r, pair{Person: r.Intn(9), Place: r.Intn(9)}, pair{Person: pick(r, extremes()...), Place: pick(r, extremes()...)})
}

// randomSet returns some looks of a thing, in ascending order.
func randomSet(r *rand.Rand, t api.Thing) []api.Look {
	return slices.DeleteFunc(allLooks(t), func(api.Look) bool { return r.Intn(2) == 0 })
}

// cases calls a test with many cases, a part of which is not valid, and shows the case if the test fails.
func cases(t *testing.T, seed int64, n, spoilt int, try func(c api.Case, r *rand.Rand)) {
	t.Helper()
	r := rand.New(rand.NewSource(seed))
	for range n {
		c := randomCase(r)
		if spoilt > 0 && r.Intn(spoilt) == 0 {
			c = spoiltCase(r, c)
		}
		func() {
			defer func() {
				if t.Failed() {
					t.Logf("the case %+v", c)
				}
			}()
			try(c, r)
		}()
	}
}

// everything is a text of all that the package says of a case.
func everything(c api.Case) string {
	var said []any
	put := func(values ...any) { said = append(said, values) }
	put(judge.Check(c))
	v, e := judge.Decide(c)
	put(v, e)
	ok, e := judge.CheckVerdict(c, v)
	put(ok, e)
	doubt, e := judge.Doubt(c, api.Verdict{Kind: api.VerDeliver}, c.Books, c.Day)
	put(doubt, e)
	all, e := judge.Candidates(c)
	put(all, e)
	for _, role := range []int{api.RoleTo, api.RoleFrom, 3} {
		left, e := judge.Left(c, role)
		n, e2 := judge.Count(c, role)
		ranked, e3 := judge.Ranked(c, role)
		x, e4 := judge.Certify(c, role)
		right, e5 := judge.CheckCert(c, role, x)
		put(left, e, n, e2, ranked, e3, x, e4, right, e5)
		p, is, e := judge.Least(c, role)
		right, e2 = judge.CheckPlan(c, role, p)
		put(p, is, e, right, e2)
		for _, l := range judge.Looks(c.Thing) {
			x, y, ok, e := judge.Separates(c, role, []api.Look{l})
			worth, e2 := judge.Worth(c, role, l)
			put(x, y, ok, e, worth, e2)
		}
	}
	for _, who := range all {
		for _, l := range judge.Looks(c.Thing) {
			cost, fits, e := judge.Fits(c, who, l)
			put(cost, fits, e)
		}
		for kind := range uint8(8) {
			names, e := judge.Names(c, kind, who)
			common, is, e2 := judge.Common(c, kind, all[0], who)
			apart, e3 := judge.Apart(c, kind, who, all[0])
			put(names, e, common, is, e2, apart, e3)
		}
	}
	return show(said)
}
