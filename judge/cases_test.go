package judge_test

import (
	"fmt"
	"math"
	"math/rand"
	"slices"
	"strconv"
	"strings"
	"testing"

	"restante/api"
	"restante/judge"
)

// E1.
func TestCheckAgainstTheOracle(t *testing.T) {
	met := map[api.Errno]int{}
	cases(t, 1, 6000, 1, func(c api.Case, r *rand.Rand) {
		want := caseError(c)
		same(t, "Check", judge.Check(c), want)
		met[want]++
	})
	for _, e := range []api.Errno{api.OK, api.ErrArg, api.ErrLimit, api.ErrForm, api.ErrNone, api.ErrTwice, api.ErrTime} {
		same(t, fmt.Sprint("the error ", e, " was met"), met[e] > 0, true)
	}
}

// changed returns the sample with one change.
func changed(change func(c *api.Case)) api.Case {
	c := sample()
	change(&c)
	return c
}

// E1: each number at its limits and one beyond.
func TestLimitsOfNumbers(t *testing.T) {
	for _, x := range []struct {
		what   string
		values []int // the least and the greatest ones that are valid
		set    func(c *api.Case, n int)
	}{
		{"Day", []int{5, 100000}, func(c *api.Case, n int) { c.Day = n }},
		{"Thing.Day", []int{0, 9}, func(c *api.Case, n int) { c.Thing.Day = n }},
		{"Day and Thing.Day", []int{0, 100000}, func(c *api.Case, n int) { c.Day, c.Thing.Day = n, n }},
		{"Opened", []int{1, 1}, func(c *api.Case, n int) { c.Opened = n }},
		{"the first weight", []int{0, 1000}, func(c *api.Case, n int) { c.Weights[0] = n }},
		{"the second weight", []int{0, 1000}, func(c *api.Case, n int) { c.Weights[1] = n }},
		{"the third weight", []int{0, 1000}, func(c *api.Case, n int) { c.Weights[2] = n }},
		{"Thing.Id", []int{1, 1000000}, func(c *api.Case, n int) { c.Thing.Id = n }},
	} {
		for _, n := range append(extremes(), x.values[0], x.values[1], x.values[0]-1, x.values[1]+1) {
			want := api.OK
			if n < x.values[0] || n > x.values[1] {
				want = api.ErrArg
			}
			c := changed(func(c *api.Case) { x.set(c, n) })
			same(t, fmt.Sprint(x.what, " ", n), judge.Check(c), want)
		}
	}
}

// E1: looks.
func TestLooksOfCases(t *testing.T) {
	look := func(layer, piece int) api.Look { return api.Look{Layer: layer, Piece: piece} }
	for _, x := range []struct {
		what      string
		made, may []api.Look
		opened    int
		want      api.Errno
	}{
		{"no looks", nil, nil, 0, api.OK},
		{"no looks, but a depth", nil, nil, 1, api.ErrArg},
		{"all made", []api.Look{look(1, 0), look(2, 0), look(2, 1)}, nil, 2, api.OK},
		{"less depth than the looks", []api.Look{look(1, 0), look(2, 0)}, nil, 1, api.ErrArg},
		{"more depth than the looks", []api.Look{look(1, 0)}, nil, 2, api.ErrArg},
		{"more depth than the layers", []api.Look{look(1, 0)}, nil, 3, api.ErrArg},
		{"all allowed", nil, []api.Look{look(1, 0), look(2, 0), look(2, 1)}, 0, api.OK},
		{"one that is both", []api.Look{look(1, 0)}, []api.Look{look(1, 0)}, 1, api.ErrArg},
		{"made, out of order", []api.Look{look(2, 1), look(2, 0)}, nil, 2, api.ErrArg},
		{"made twice", []api.Look{look(1, 0), look(1, 0)}, nil, 1, api.ErrArg},
		{"allowed, out of order", nil, []api.Look{look(2, 1), look(1, 0)}, 0, api.ErrArg},
		{"allowed twice", nil, []api.Look{look(2, 1), look(2, 1)}, 0, api.ErrArg},
		{"made, no layer 0", []api.Look{look(0, 0)}, nil, 0, api.ErrArg},
		{"made, no layer 3", []api.Look{look(1, 0), look(3, 0)}, nil, 3, api.ErrArg},
		{"made, no piece", []api.Look{look(1, 1)}, nil, 1, api.ErrArg},
		{"allowed, no piece", nil, []api.Look{look(2, 2)}, 0, api.ErrArg},
		{"allowed, a negative piece", nil, []api.Look{look(2, -1)}, 0, api.ErrArg},
		{"allowed, extremes", nil, []api.Look{look(math.MinInt, math.MinInt), look(math.MaxInt, math.MaxInt)}, 0, api.ErrArg},
	} {
		c := changed(func(c *api.Case) { c.Made, c.May, c.Opened = x.made, x.may, x.opened })
		same(t, x.what, judge.Check(c), x.want)
	}
}

// crowd is spelling rules for a name of the letter a alone, with so many matches for each of its letters.
func crowd(n int) []api.Spell {
	var l []api.Spell
	for i := range n {
		l = append(l, api.Spell{From: "a", To: "b" + string(rune('a'+i)), Cost: i})
	}
	return l
}

// E1: the order of the conditions. Each case breaks one of them and some later ones.
func TestOrderOfConditions(t *testing.T) {
	number := func(c *api.Case) { c.Day = -1 }
	thing := func(c *api.Case) { c.Thing.Layers = make([]api.Layer, 4) }
	depth := func(c *api.Case) { c.Opened = 3 }
	looks := func(c *api.Case) { c.May = c.Made }
	events := func(c *api.Case) { c.Books.Places[1].Other = 7 }
	spells := func(c *api.Case) { c.Books.Spells = []api.Spell{{From: "", To: "a"}} }
	entries := func(c *api.Case) { c.Books.People[1].Person = 0 }
	names := func(c *api.Case) {
		c.Books.Spells = append(c.Books.Spells, crowd(10)...)
		c.Books.Places[0].Name = strings.Repeat("a", 11)
	}
	cells := func(c *api.Case) { c.Thing.Layers[0].Pieces[0].Cells = broad() }
	for i, x := range []struct {
		breaks []func(c *api.Case)
		want   api.Errno
	}{
		{[]func(c *api.Case){number, thing, looks, events}, api.ErrArg},
		{[]func(c *api.Case){thing, depth, looks, events, spells}, api.ErrLimit},
		{[]func(c *api.Case){depth, events, spells, entries}, api.ErrArg},
		{[]func(c *api.Case){looks, events, spells, names}, api.ErrArg},
		{[]func(c *api.Case){events, spells, entries, names, cells}, api.ErrNone},
		{[]func(c *api.Case){spells, entries, names, cells}, api.ErrForm},
		{[]func(c *api.Case){entries, names, cells}, api.ErrArg},
		{[]func(c *api.Case){names, cells}, api.ErrLimit},
		{[]func(c *api.Case){names}, api.ErrLimit},
		{[]func(c *api.Case){cells}, api.ErrLimit},
	} {
		c := changed(func(c *api.Case) {
			for _, f := range x.breaks {
				f(c)
			}
		})
		same(t, fmt.Sprint("the case ", i), judge.Check(c), x.want)
	}
}

// E1: names and pieces that are too much for an automaton.
func TestTextsThatAreTooMuch(t *testing.T) {
	for _, x := range []struct {
		letters int
		want    api.Errno
	}{{10, api.OK}, {11, api.ErrLimit}} {
		name := strings.Repeat("a", x.letters) // with 10 matches for each letter
		person := changed(func(c *api.Case) { c.Books.Spells, c.Books.People[2].Name = crowd(10), name })
		same(t, fmt.Sprint("a person with ", x.letters, " letters"), judge.Check(person), x.want)
		place := changed(func(c *api.Case) { c.Books.Spells, c.Books.Places[2].Name = crowd(10), name })
		same(t, fmt.Sprint("a place with ", x.letters, " letters"), judge.Check(place), x.want)
		alias := changed(func(c *api.Case) {
			c.Books.Spells = crowd(10)
			c.Books.Places = append(c.Books.Places, api.PlaceEvent{Day: 9, Kind: api.PlaceAlias, Place: 3, Name: name})
			c.Books.People = append(c.Books.People, api.Entry{Day: 9, Kind: api.EntryName, Person: 3, Since: 50, Name: name})
		})
		same(t, fmt.Sprint("a further name with ", x.letters, " letters"), judge.Check(alias), x.want)
		alias.Day = 8
		same(t, "what is not known yet", judge.Check(alias), api.OK)
	}
	shown := changed(func(c *api.Case) { c.Thing.Layers[0].Pieces[0].Cells = broad() })
	same(t, "cells that were shown", judge.Check(shown), api.ErrLimit)
	hidden := changed(func(c *api.Case) { c.Thing.Layers[1].Pieces[0].Cells = broad() })
	same(t, "cells that were not shown", judge.Check(hidden), api.OK)
}

// E1: as many entries, events, rules, pieces and layers as there may be, and one more.
func TestLimitsOfLists(t *testing.T) {
	for n, want := range map[int]api.Errno{400: api.OK, 401: api.ErrLimit} {
		people := changed(func(c *api.Case) {
			for len(c.Books.People) < n {
				c.Books.People = append(c.Books.People, api.Entry{Kind: api.EntryName, Person: len(c.Books.People), Name: "x" + strconv.Itoa(len(c.Books.People)%9)})
			}
		})
		same(t, fmt.Sprint(n, " entries"), judge.Check(people), want)
		places := changed(func(c *api.Case) {
			for len(c.Books.Places) < n {
				c.Books.Places = append(c.Books.Places, api.PlaceEvent{Kind: api.PlaceFound, Place: 1 + len(c.Books.Places), Name: "x" + strconv.Itoa(len(c.Books.Places)%9)})
			}
		})
		same(t, fmt.Sprint(n, " events"), judge.Check(places), want)
	}
	for n, want := range map[int]api.Errno{24: api.OK, 25: api.ErrLimit} {
		same(t, fmt.Sprint(n, " rules"), judge.Check(changed(func(c *api.Case) { c.Books.Spells = crowd(n) })), want)
	}
	for n, want := range map[int]api.Errno{6: api.OK, 7: api.ErrLimit} {
		c := changed(func(c *api.Case) { c.Thing.Layers[1].Pieces = slices.Repeat(c.Thing.Layers[1].Pieces[:1], n) })
		same(t, fmt.Sprint(n, " pieces of a layer"), judge.Check(c), want)
	}
	for n, want := range map[int]api.Errno{3: api.OK, 4: api.ErrLimit} {
		c := changed(func(c *api.Case) {
			c.Thing.Layers[1].Pieces = slices.Repeat(c.Thing.Layers[1].Pieces[:1], 6)
			c.Thing.Layers = append(c.Thing.Layers, api.Layer{Pieces: slices.Repeat(c.Thing.Layers[0].Pieces, n)})
		})
		same(t, fmt.Sprint(7+n, " pieces"), judge.Check(c), want)
	}
	for n, want := range map[int]api.Errno{3: api.OK, 4: api.ErrLimit} {
		c := changed(func(c *api.Case) { c.Thing.Layers = append(c.Thing.Layers, make([]api.Layer, n-2)...) })
		same(t, fmt.Sprint(n, " layers"), judge.Check(c), want)
	}
}

// E2.
func TestKnown(t *testing.T) {
	cases(t, 2, 300, 3, func(c api.Case, r *rand.Rand) {
		for _, day := range append(extremes(), c.Day, c.Thing.Day, r.Intn(31)) {
			equal(t, fmt.Sprint("Known on the day ", day), judge.Known(c.Books, day), knownOf(c.Books, day))
		}
	})
	b := api.Books{Places: []api.PlaceEvent{{Day: 3}, {Day: 9}, {Day: 2}}, People: []api.Entry{{Day: 1}, {Day: 7}, {Day: 0}}, Spells: []api.Spell{{Cost: -1}}}
	same(t, "what comes behind a later day", show(judge.Known(b, 6)), show(api.Books{Places: b.Places[:1], People: b.People[:1], Spells: b.Spells}))
	equal(t, "Known of no books", judge.Known(api.Books{}, 0), api.Books{})
}

// E3.
func TestRole(t *testing.T) {
	for kind := range 256 {
		want := 0
		switch {
		case in(kind, 1, 3):
			want = 1
		case in(kind, 4, 6):
			want = 2
		}
		same(t, fmt.Sprint("Role ", kind), judge.Role(uint8(kind)), want)
	}
}

// E3.
func TestLooks(t *testing.T) {
	cases(t, 3, 200, 2, func(c api.Case, r *rand.Rand) {
		equal(t, "Looks", judge.Looks(c.Thing), allLooks(c.Thing))
	})
	big := api.Thing{Id: -1, Layers: []api.Layer{{}, {Pieces: make([]api.Piece, 8)}, {}, {}, {Pieces: make([]api.Piece, 1)}}}
	looks := judge.Looks(big)
	same(t, "how many looks a thing that is not valid has", len(looks), 9)
	same(t, "the last one", looks[8], api.Look{Layer: 5})
	same(t, "Looks of nothing", len(judge.Looks(api.Thing{})), 0)
}

// E3.
func TestPersons(t *testing.T) {
	r := rand.New(rand.NewSource(4))
	for range 300 {
		var l []pair
		for range r.Intn(9) {
			l = append(l, pair{Person: pick(r, 1, 2, 3, 9, math.MinInt, math.MaxInt, -1), Place: r.Intn(3)})
		}
		equal(t, fmt.Sprint("Persons of ", l), judge.Persons(l), personsOf(l))
	}
	same(t, "Persons in order", show(judge.Persons([]pair{{Person: 9, Place: 1}, {Person: 2, Place: 5}, {Person: 9, Place: 3}, {Person: -1}})), "[[-1 2 9]]")
	same(t, "Persons of nobody", len(judge.Persons(nil)), 0)
}
