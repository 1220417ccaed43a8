package places_test

import (
	"fmt"
	"math"
	"testing"

	"restante/api"
	"restante/places"
)

// R5.
func TestNilGazetteer(t *testing.T) {
	var g *places.Gazetteer
	a := word(t, "a", 0)
	for _, n := range []int{0, 1, -1, 100000, math.MaxInt, math.MinInt} {
		same(t, "Add", g.Add(api.PlaceEvent{Day: n, Kind: api.PlaceFound, Place: 1, Name: "a"}), api.ErrNil)
		same(t, "Exists", g.Exists(n, n), false)
		equal(t, "All", g.All(n), nil)
		same(t, "Name", g.Name(n, n), "")
		equal(t, "Names", g.Names(n, n), nil)
		equal(t, "History", g.History(n), nil)
		same(t, "Parent", g.Parent(n, n), 0)
		equal(t, "Path", g.Path(n, n), nil)
		equal(t, "Inside", g.Inside(n, n), nil)
		same(t, "Common", g.Common(n, n, n), 0)
		same(t, "GoesOn", g.GoesOn(n, n), 0)
		equal(t, "Called", g.Called("a", n), nil)
		equal(t, "Changes", g.Changes(n), nil)
		cost, fits, e := g.Fits(n, n, a, nil)
		same(t, "Fits", fmt.Sprint(cost, fits, e), "0 false 3")
		m, fits, e := g.FitsRegion(n, n, a, nil)
		same(t, "FitsRegion", fmt.Sprint(m, fits, e), "{0 0} false 3")
		found, e := g.Find(n, n, a, nil, n)
		same(t, "Find", fmt.Sprint(found, e), "[] 3")
		twins, e := g.Twins(n, n, nil)
		same(t, "Twins", fmt.Sprint(twins, e), "[] 3")
	}
	equal(t, "Events", g.Events(), nil)
}

// whole returns all that is in a slice and in the memory behind it.
func whole[T any](s []T) []T { return s[:cap(s)] }

// spoil changes all that is in a slice and in the memory behind it.
func spoil[T any](s []T) {
	var zero T
	for i := range whole(s) {
		whole(s)[i] = zero
	}
}

// R3.
func TestResultsAreNewMemory(t *testing.T) {
	g := open(t, "10 found 1 0 lowland", "10 found 2 1 old haven", "20 found 3 1 newhaven", "100 rename 2 haven", "200 merge 3 2", "300 found 4 1 hafn")
	l, a := sampleRules(), word(t, "hafn", 1)
	all := func() string {
		var list []any
		for _, day := range []int{30, 250, 400} {
			found, _ := g.Find(day, 0, a, l, 9)
			twins, _ := g.Twins(2, day, l)
			list = append(list, g.All(day), g.Names(2, day), g.Path(2, day), g.Inside(1, day), g.Called("haven", day), found, twins)
		}
		return fmt.Sprint(g.Events(), g.History(2), g.Changes(2), list)
	}
	before := all()
	spoil(g.Events())
	spoil(g.History(2))
	spoil(g.Changes(2))
	for _, day := range []int{30, 250, 400} {
		spoil(g.All(day))
		spoil(g.Names(2, day))
		spoil(g.Path(2, day))
		spoil(g.Inside(1, day))
		spoil(g.Called("haven", day))
		found, _ := g.Find(day, 0, a, l, 9)
		spoil(found)
		twins, _ := g.Twins(2, day, l)
		spoil(twins)
	}
	same(t, "all that the gazetteer says", all(), before)
	spelled, _ := places.Spelled("haven", l)
	text := fmt.Sprint(spelled)
	spoil(spelled.Arcs)
	spoil(spelled.Ends)
	spelled, _ = places.Spelled("haven", l)
	same(t, "Spelled", fmt.Sprint(spelled), text)
}

func TestArgumentsAreNeitherChangedNorKept(t *testing.T) {
	events := sample(t).Events()
	g, _, e := places.Open(events)
	same(t, "Open", e, api.OK)
	text := fmt.Sprint(events)
	same(t, "Add", g.Add(event(t, "300 found 4 0 x")), api.OK)
	same(t, "the events", fmt.Sprint(events), text)
	spoil(events)
	same(t, "Events", fmt.Sprint(g.Events()[:5]), text)
	l, a, uses := sampleRules(), word(t, "hafn", 1), []api.SpellUse{{At: 2, Rule: 0}, {At: 3, Rule: 1}}
	names := [][]string{{"haven", "b", "a"}, {"z", "y"}}
	text = fmt.Sprint(l, a, uses, names)
	places.Spelled("haven", l)
	places.Written("haven", "hafn", l)
	places.CheckUses("haven", "hafn", l, uses)
	places.Apart(names[0], names[1], l)
	g.Fits(2, 250, a, l)
	g.FitsRegion(2, 250, a, l)
	g.Find(250, 0, a, l, 9)
	g.Twins(2, 250, l)
	same(t, "the arguments", fmt.Sprint(l, a, uses, names), text)
	// the memory behind the first list must not become part of it
	behind := append(make([]string, 0, 4), "x")
	places.Apart(behind, []string{"w"}, nil)
	same(t, "the memory behind a list", whole(behind)[1], "")
}

// R4: objects that were made alike do not know of each other.
func TestGazetteersAreSeparate(t *testing.T) {
	g, h := sample(t), sample(t)
	same(t, "Add", g.Add(event(t, "300 rename 2 x")), api.OK)
	same(t, "Name", h.Name(2, 300), "haven")
	same(t, "Add", h.Add(event(t, "300 rename 2 y")), api.OK)
	same(t, "Name", g.Name(2, 300), "x")
	i, _, _ := places.Open(g.Events())
	same(t, "Add", i.Add(event(t, "300 rename 2 z")), api.OK)
	same(t, "Name", g.Name(2, 300), "x")
}

// R1: extreme arguments, fields with any values.
func TestExtremes(t *testing.T) {
	numbers := []int{math.MinInt, math.MinInt + 1, -1, 0, 1, 100000, 100001, 1000000, math.MaxInt - 1, math.MaxInt}
	g := sample(t)
	text := fmt.Sprint(g.Events())
	for _, n := range numbers {
		for _, m := range numbers {
			for kind := range 8 {
				e := api.PlaceEvent{Day: n, Kind: uint8(kind), Place: m, Other: n, Name: "a"}
				want := formError(e)
				if got := places.New().Add(e); (want != api.OK) != (got == api.ErrArg || got == api.ErrForm) {
					t.Fatalf("Add of %v returns %d", e, got)
				}
				_, f := places.Write(e)
				same(t, fmt.Sprintf("Write of %v", e), f, want)
			}
			g.Exists(n, m)
			g.Inside(n, m)
			g.Common(n, m, n)
			g.Common(1, n, m)
			g.GoesOn(n, m)
			g.Changes(n)
			a := api.Auto{States: n, Arcs: []api.Arc{{From: n, To: m, Letter: 'a', Cost: n}}, Ends: []api.End{{State: m, Cost: n}}}
			_, fits, e := g.Fits(1, n, a, nil)
			if fits || e != api.ErrArg && e != api.ErrLimit {
				t.Fatalf("Fits with %v returns %t, %d", a, fits, e)
			}
			_, _, e = g.FitsRegion(3, 30, a, nil)
			same(t, "FitsRegion", e == api.ErrArg || e == api.ErrLimit, true)
			_, e = g.Find(n, m, a, nil, n)
			same(t, "Find", e == api.ErrArg || e == api.ErrLimit, true)
			_, e = places.CheckUses("haven", "hafn", sampleRules(), []api.SpellUse{{At: n, Rule: m}})
			same(t, "CheckUses", e, api.ErrArg)
			same(t, "CheckSpells", places.CheckSpells([]api.Spell{{From: "a", To: "b", Cost: n}}) == api.OK, n >= 0 && n <= 1000)
		}
	}
	same(t, "Events", fmt.Sprint(g.Events()), text)
}
