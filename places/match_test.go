package places_test

import (
	"cmp"
	"fmt"
	"math"
	"math/rand"
	"slices"
	"testing"

	"restante/api"
	"restante/places"
	"restante/reading"
)

// shortNames returns events with short names, which random rules and automata often fit.
func shortNames(r *rand.Rand) []api.PlaceEvent {
	g := places.New()
	name := func() string {
		s := randomName(r)
		return s[:min(len(s), 3)]
	}
	for place := 1; place <= 5; place++ {
		g.Add(api.PlaceEvent{Kind: api.PlaceFound, Place: place, Other: r.Intn(place), Name: name()})
	}
	day := 0
	for range 30 {
		e := randomEvent(r, day, 8)
		if e.Name != "" {
			e.Name = name()
		}
		if g.Add(e) == api.OK {
			day = e.Day
		}
	}
	return g.Events()
}

// findOf is what Find returns, by the oracles.
func findOf(p past, among []int, day int, a api.Auto, l []api.Spell, most int) []api.PlaceMatch {
	var list []api.PlaceMatch
	for _, place := range among {
		if cost, fits := fitOf(p.names(place, day), a, l); fits && cost <= most {
			list = append(list, api.PlaceMatch{Place: place, Cost: cost})
		}
	}
	slices.SortFunc(list, func(x, y api.PlaceMatch) int {
		return cmp.Or(cmp.Compare(x.Cost, y.Cost), cmp.Compare(x.Place, y.Place))
	})
	return list
}

func TestMatchingAgainstTheOracle(t *testing.T) {
	r := rand.New(rand.NewSource(14))
	fitting, ties := 0, 0
	for range 40 {
		events := shortNames(r)
		g, _, _ := places.Open(events)
		for range 4 {
			a, l := randomAuto(r), randomRules(r, r.Intn(6))
			day := pick(r, daysOf(events)...)
			p := pastOn(events, day)
			what := fmt.Sprintf(" on the day %d of %v with %v and %v", day, events, a, l)
			for place := range 8 {
				cost, fits := fitOf(p.names(place, day), a, l)
				gotCost, got, e := g.Fits(place, day, a, l)
				same(t, fmt.Sprint("Fits of ", place, what), fmt.Sprint(gotCost, got, e), fmt.Sprint(cost, fits, api.OK))
				var best api.PlaceMatch
				around := findOf(p, p.path(place), day, a, l, math.MaxInt)
				if len(around) > 0 {
					best = around[0]
					fitting++
				}
				if len(around) > 1 && around[0].Cost == around[1].Cost {
					ties++
				}
				m, is, e := g.FitsRegion(place, day, a, l)
				same(t, fmt.Sprint("FitsRegion of ", place, what), fmt.Sprint(m, is, e), fmt.Sprint(best, len(around) > 0, api.OK))
				if !p.exists(place) {
					continue
				}
				for _, most := range []int{-1, 0, 2, 4, math.MaxInt} {
					found, e := g.Find(day, place, a, l, most)
					same(t, "Find", e, api.OK)
					equal(t, fmt.Sprint("Find in ", place, " for ", most, what), found, findOf(p, p.inside(place), day, a, l, most))
				}
			}
			for _, most := range []int{math.MinInt, -1, 0, 1, 2, 3, 5, math.MaxInt} {
				found, e := g.Find(day, 0, a, l, most)
				same(t, "Find", e, api.OK)
				equal(t, fmt.Sprint("Find for ", most, what), found, findOf(p, p.all(), day, a, l, most))
			}
		}
	}
	if fitting < 50 || ties < 5 {
		t.Errorf("%d regions fit, %d of them equally well as another one", fitting, ties)
	}
}

func TestTwinsAgainstTheOracle(t *testing.T) {
	r := rand.New(rand.NewSource(15))
	twins := 0
	for range 60 {
		events := shortNames(r)
		g, _, _ := places.Open(events)
		l := randomRules(r, r.Intn(6))
		day := pick(r, daysOf(events)...)
		p := pastOn(events, day)
		for place := range 8 {
			got, e := g.Twins(place, day, l)
			what := fmt.Sprintf("Twins(%d, %d, %v) of %v", place, day, l, events)
			if !p.exists(place) {
				same(t, what, e, api.ErrNone)
				equal(t, what, got, nil)
				continue
			}
			var want []int
			for _, other := range p.all() {
				if other != place && !apartOf(p.names(place, day), p.names(other, day), l) {
					want = append(want, other)
				}
			}
			same(t, what, e, api.OK)
			equal(t, what, got, want)
			for _, twin := range got { // P2.8
				theirs, e := g.Twins(twin, day, l)
				same(t, what, e, api.OK)
				same(t, "the place is a twin of its twins", slices.Contains(theirs, place), true)
				twins++
			}
		}
	}
	if twins < 50 {
		t.Errorf("only %d twins", twins)
	}
}

func TestMatchingErrors(t *testing.T) {
	g := open(t, "1 found 1 0 a", "1 found 2 1 b", "1 found 3 2 "+crowd, "1 found 4 3 c", "5 found 5 0 x", "9 rename 3 y")
	good := word(t, "a", 0)
	wrong := api.Auto{States: 0}
	large := api.Auto{States: 401}
	empty := api.Auto{States: 1}
	bad := []api.Spell{{From: "", To: "b"}}
	for _, x := range []struct {
		name       string
		g          *places.Gazetteer
		place, day int
		a          api.Auto
		l          []api.Spell
		// the errors of Fits, FitsRegion, Find in the place, Find everywhere, and Twins
		want [5]api.Errno
	}{
		{"nil comes first", nil, 1, 1, wrong, bad, [5]api.Errno{3, 3, 3, 3, 3}},
		{"then the automaton", g, 1, 1, wrong, bad, [5]api.Errno{1, 1, 1, 1, 4}},
		{"with its own error", g, 9, 1, large, bad, [5]api.Errno{2, 2, 2, 2, 4}},
		{"then the rules", g, 9, 1, good, bad, [5]api.Errno{4, 4, 4, 4, 4}},
		{"with their own error", g, 3, 1, good, make([]api.Spell, 25), [5]api.Errno{2, 2, 2, 2, 2}},
		{"then the place", g, 9, 1, good, nil, [5]api.Errno{0, 0, 5, 0, 5}},
		{"and the day", g, 1, 0, good, nil, [5]api.Errno{0, 0, 5, 0, 5}},
		{"no such day", g, 1, 100001, good, crowdRules(), [5]api.Errno{0, 0, 5, 0, 5}},
		{"no such place comes before a crowd", g, 9, 1, good, crowdRules(), [5]api.Errno{0, 0, 5, 2, 5}},
		{"a negative place", g, -1, 1, good, nil, [5]api.Errno{0, 0, 5, 0, 5}},
		{"a crowded name inside", g, 1, 1, good, crowdRules(), [5]api.Errno{0, 0, 2, 2, 2}},
		{"a crowded name of its own", g, 3, 1, good, crowdRules(), [5]api.Errno{2, 0, 2, 2, 2}},
		{"a crowded name around", g, 4, 1, good, crowdRules(), [5]api.Errno{0, 2, 0, 2, 2}},
		{"a crowded name elsewhere", g, 5, 5, good, crowdRules(), [5]api.Errno{0, 0, 0, 2, 2}},
		{"a crowded name that is remembered", g, 3, 3658, good, crowdRules(), [5]api.Errno{2, 0, 2, 2, 2}},
		{"a crowded name that has ended", g, 3, 3659, good, crowdRules(), [5]api.Errno{}},
		{"an automaton that accepts nothing", g, 3, 1, empty, crowdRules(), [5]api.Errno{2, 0, 2, 2, 2}},
		{"no error", g, 2, 1, good, sampleRules(), [5]api.Errno{}},
	} {
		cost, fits, e := x.g.Fits(x.place, x.day, x.a, x.l)
		same(t, x.name+": Fits", e, x.want[0])
		if e != api.OK && (cost != 0 || fits) {
			t.Errorf("%s: Fits returns %d, %t with an error", x.name, cost, fits)
		}
		m, is, e := x.g.FitsRegion(x.place, x.day, x.a, x.l)
		same(t, x.name+": FitsRegion", e, x.want[1])
		if e != api.OK && (m != api.PlaceMatch{} || is) {
			t.Errorf("%s: FitsRegion returns %v, %t with an error", x.name, m, is)
		}
		found, e := x.g.Find(x.day, x.place, x.a, x.l, 1000)
		same(t, x.name+": Find in the place", e, x.want[2])
		if e != api.OK && len(found) > 0 {
			t.Errorf("%s: Find returns %v with an error", x.name, found)
		}
		found, e = x.g.Find(x.day, 0, x.a, x.l, -1)
		same(t, x.name+": Find", e, x.want[3])
		equal(t, x.name+": Find", found, nil)
		twins, e := x.g.Twins(x.place, x.day, x.l)
		same(t, x.name+": Twins", e, x.want[4])
		if e != api.OK && len(twins) > 0 {
			t.Errorf("%s: Twins returns %v with an error", x.name, twins)
		}
	}
}

func TestACrowdAfterPlacesThatFit(t *testing.T) {
	// The places before the crowded one fit, which does not make the call a success.
	g := open(t, "1 found 1 0 "+crowd, "1 found 2 1 a", "1 found 3 2 b")
	m, fits, e := g.FitsRegion(3, 1, word(t, "a", 0), crowdRules())
	same(t, "FitsRegion", fmt.Sprint(m, fits, e), "{0 0} false 2")
	h := open(t, "1 found 2 0 a", "1 found 3 0 a", "1 found 4 0 "+crowd, "1 found 5 0 a", "1 alias 5 "+crowd)
	found, e := h.Find(1, 0, word(t, "a", 0), crowdRules(), 0)
	same(t, "Find", e, api.ErrLimit)
	equal(t, "Find", found, nil)
	cost, fits, e := h.Fits(5, 1, word(t, "a", 0), crowdRules())
	same(t, "Fits of a name before the crowded one", fmt.Sprint(cost, fits, e), "0 false 2")
	twins, e := h.Twins(2, 1, crowdRules())
	same(t, "Twins", e, api.ErrLimit)
	equal(t, "Twins", twins, nil)
	alone := open(t, "1 found 1 0 "+crowd)
	_, e = alone.Twins(1, 1, crowdRules())
	same(t, "Twins of the only place", e, api.ErrLimit)
}

func TestMatchingWithManyMatches(t *testing.T) {
	g := open(t, "1 found 1 0 "+packed, "1 found 2 1 x")
	a := word(t, "vaaaaaaaaaaaaaaaaaaac", 3)
	cost, fits, e := g.Fits(1, 1, a, crowdRules())
	same(t, "Fits with 100 matches", fmt.Sprint(cost, fits, e), "4 true 0")
	m, fits, e := g.FitsRegion(2, 1, a, crowdRules())
	same(t, "FitsRegion with 100 matches", fmt.Sprint(m, fits, e), "{1 4} true 0")
	found, e := g.Find(1, 0, a, crowdRules(), 4)
	same(t, "Find with 100 matches", fmt.Sprint(found, e), "[{1 4}] 0")
	twins, e := g.Twins(1, 1, crowdRules())
	same(t, "Twins with 100 matches", fmt.Sprint(twins, e), "[] 0")
}

// P2.6.
func TestTrueNamesFit(t *testing.T) {
	r := rand.New(rand.NewSource(16))
	for range 60 {
		events := shortNames(r)
		g, _, _ := places.Open(events)
		l := randomRules(r, 4)
		day := events[len(events)-1].Day
		a := randomAuto(r)
		for _, place := range g.All(day) {
			for _, name := range g.Names(place, day) {
				for text, d := range spellings(name, l) {
					cost, fits, e := g.Fits(place, day, word(t, text, 7), l)
					same(t, "Fits", e, api.OK)
					if !fits || cost > d.cost+7 {
						t.Fatalf("the word %q fits %q by %v: %t, with the cost %d", text, name, l, fits, cost)
					}
				}
			}
			// more strings, and lesser costs
			other, e := reading.Normal(randomAuto(r))
			same(t, "Normal", e, api.OK)
			more, e := reading.Union(a, other)
			same(t, "Union", e, api.OK)
			cost, fits, _ := g.Fits(place, day, a, l)
			wide, is, _ := g.Fits(place, day, more, l)
			if fits && (!is || wide > cost) {
				t.Fatalf("%v fits %d with the cost %d, and with more strings %t, %d", a, place, cost, is, wide)
			}
		}
	}
}

// P2.7.
func TestFinding(t *testing.T) {
	r := rand.New(rand.NewSource(17))
	for range 60 {
		events := shortNames(r)
		g, _, _ := places.Open(events)
		a, l := randomAuto(r), randomRules(r, 4)
		day := pick(r, daysOf(events)...)
		for region := range 7 {
			if region > 0 && !g.Exists(region, day) {
				continue
			}
			among := g.All(day)
			if region > 0 {
				among = g.Inside(region, day)
			}
			var last []api.PlaceMatch
			for most := -1; most < 9; most++ {
				found, e := g.Find(day, region, a, l, most)
				same(t, "Find", e, api.OK)
				costs := map[int]int{}
				for _, m := range found {
					costs[m.Place] = m.Cost
				}
				same(t, "each place once", len(costs), len(found))
				for _, place := range among {
					cost, fits, _ := g.Fits(place, day, a, l)
					got, is := costs[place]
					if !fits || cost > most {
						cost, fits = 0, false
					}
					same(t, "what Fits says", fmt.Sprint(got, is), fmt.Sprint(cost, fits))
				}
				for place := range costs {
					same(t, "a place of the region", slices.Contains(among, place), true)
				}
				for _, m := range last {
					same(t, "none is missing", slices.Contains(found, m), true)
				}
				last = found
			}
		}
	}
}

func TestAutomataThatAreNoNormalForms(t *testing.T) {
	g := open(t, "1 found 1 0 ab", "1 found 2 0 cd")
	// two ways for "ab", the cheaper one by the greater state, a dead end, and a state on no way
	a := api.Auto{
		States: 6,
		Arcs:   []api.Arc{{From: 0, To: 1, Letter: 'a', Cost: 5}, {From: 0, To: 2, Letter: 'a', Cost: 1}, {From: 0, To: 4, Letter: 'c'}, {From: 1, To: 3, Letter: 'b'}, {From: 2, To: 3, Letter: 'b', Cost: 2}},
		Ends:   []api.End{{State: 3, Cost: 4}, {State: 5, Cost: 0}},
	}
	found, e := g.Find(1, 0, a, nil, 100)
	same(t, "Find", fmt.Sprint(found, e), "[{1 7}] 0")
	huge := api.Auto{States: 2, Arcs: []api.Arc{{From: 0, To: 1, Letter: 'x', Cost: api.MaxCost}}, Ends: []api.End{{State: 1, Cost: api.MaxCost}}}
	rules := []api.Spell{{From: "cd", To: "x", Cost: api.MaxAlt}}
	found, e = g.Find(1, 0, huge, rules, 2*api.MaxCost+api.MaxAlt)
	same(t, "Find with great costs", fmt.Sprint(found, e), "[{2 2001000}] 0")
	found, e = g.Find(1, 0, huge, rules, 2*api.MaxCost+api.MaxAlt-1)
	same(t, "Find with great costs", fmt.Sprint(found, e), "[] 0")
}

func TestNamesOfTheDayFit(t *testing.T) {
	g := open(t, "10 found 1 0 a", "20 rename 1 b", "30 alias 1 c", "40 found 2 1 d")
	for _, x := range []struct {
		name string
		day  int
		want bool
	}{{"a", 9, false}, {"a", 10, true}, {"a", 3669, true}, {"a", 3670, false}, {"b", 19, false}, {"b", 20, true}, {"c", 29, false}, {"c", 30, true}, {"c", 100000, true}, {"c", 100001, false}, {"d", 40, false}} {
		_, fits, e := g.Fits(1, x.day, word(t, x.name, 0), nil)
		same(t, fmt.Sprintf("Fits of %q on the day %d", x.name, x.day), fmt.Sprint(fits, e), fmt.Sprint(x.want, api.OK))
		_, fits, e = g.FitsRegion(2, x.day, word(t, x.name, 0), nil)
		same(t, fmt.Sprintf("FitsRegion of %q on the day %d", x.name, x.day), fmt.Sprint(fits, e), fmt.Sprint(x.want && x.day >= 40, api.OK))
	}
	// a place is no region around itself
	_, fits, _ := g.FitsRegion(2, 40, word(t, "d", 0), nil)
	same(t, "FitsRegion of its own name", fits, false)
}
