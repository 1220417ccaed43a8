package places_test

import (
	"fmt"
	"math/rand"
	"slices"
	"testing"

	"restante/api"
	"restante/places"
)

// checkDay compares all that a gazetteer says of a day with the oracle.
func checkDay(t *testing.T, g *places.Gazetteer, events []api.PlaceEvent, day, ids int) {
	t.Helper()
	p := pastOn(events, day)
	at := func(what string, args ...int) string {
		return fmt.Sprintf("%s%v on the day %d of %v", what, args, day, events)
	}
	equal(t, at("All"), g.All(day), p.all())
	for place := range ids + 1 {
		same(t, at("Exists", place), g.Exists(place, day), p.exists(place))
		same(t, at("Name", place), g.Name(place, day), p.name(place))
		equal(t, at("Names", place), g.Names(place, day), p.names(place, day))
		same(t, at("Parent", place), g.Parent(place, day), p.parent[place])
		equal(t, at("Path", place), g.Path(place, day), p.path(place))
		equal(t, at("Inside", place), g.Inside(place, day), p.inside(place))
		same(t, at("GoesOn", place), g.GoesOn(place, day), p.goesOnIn(place))
		for other := range ids + 1 {
			same(t, at("Common", place, other), g.Common(place, other, day), p.common(place, other))
		}
	}
	for _, name := range []string{"a", "ab", "b", "ba", "aba", "c d", "x", "", "A"} {
		equal(t, at("Called "+name), g.Called(name, day), p.called(name, day))
	}
}

func TestDaysAgainstTheOracle(t *testing.T) {
	r := rand.New(rand.NewSource(6))
	kinds := map[uint8]int{}
	for range 40 {
		ids := 3 + r.Intn(8)
		events := randomEvents(r, 90, ids)
		for _, e := range events {
			kinds[e.Kind]++
		}
		g, _, e := places.Open(events)
		same(t, "Open", e, api.OK)
		for _, day := range daysOf(events) {
			checkDay(t, g, events, day, ids)
		}
		p := pastOf(events)
		for place := range ids + 2 {
			equal(t, fmt.Sprintf("History(%d) of %v", place, events), g.History(place), p.uses[place])
			checkChanges(t, g, events, place)
		}
	}
	for kind := uint8(1); kind <= 5; kind++ {
		if kinds[kind] < 30 {
			t.Errorf("only %d events of kind %d", kinds[kind], kind)
		}
	}
}

// checkChanges compares Changes with what the oracle says of each day on which there might be a change.
func checkChanges(t *testing.T, g *places.Gazetteer, events []api.PlaceEvent, place int) {
	t.Helper()
	var want []int
	for _, day := range daysOf(events) {
		if day < 0 || day > 100000 {
			continue
		}
		p, q := pastOn(events, day-1), pastOn(events, day)
		if day == 0 {
			p = pastOf(nil)
		}
		if p.exists(place) != q.exists(place) || !slices.Equal(p.names(place, day-1), q.names(place, day)) || !slices.Equal(p.path(place), q.path(place)) {
			want = append(want, day)
		}
	}
	equal(t, fmt.Sprintf("Changes(%d) of %v", place, events), g.Changes(place), want)
}

// Days that no event touches are looked at one by one, so that Changes misses none.
func TestChangesDayByDay(t *testing.T) {
	g := open(t, "3 found 1 0 a", "3 found 2 1 b", "5 rename 2 c", "5 rename 2 b", "9 alias 2 c", "9 found 4 0 x", "12 move 1 4", "12 move 1 0", "13 move 1 4", "14 rename 4 y", "20 move 2 4", "21 merge 1 2", "30 found 5 2 q", "31 merge 2 4", "31 merge 5 4", "90000 rename 4 z", "100000 rename 4 w")
	for place := range 7 {
		var want []int
		for day := range 100001 {
			if day > 60 && day < 3600 || day > 3700 && day < 89900 || day > 90100 && day < 93600 || day > 93700 && day < 99900 {
				continue // nothing can happen: neither an event, nor 3650 days after one
			}
			if g.Exists(place, day) != g.Exists(place, day-1) || !slices.Equal(g.Names(place, day), g.Names(place, day-1)) || !slices.Equal(g.Path(place, day), g.Path(place, day-1)) {
				want = append(want, day)
			}
		}
		equal(t, fmt.Sprint("Changes of ", place), g.Changes(place), want)
	}
	equal(t, "Changes of 2", g.Changes(2), []int{3, 5, 13, 20, 21, 31})
	equal(t, "Changes of 1", g.Changes(1), []int{3, 13, 20 + 1})
	equal(t, "Changes of 4", g.Changes(4), []int{9, 14, 31, 3664, 90000, 93650, 100000})
	equal(t, "Changes of a place of one day", g.Changes(5), []int{30, 31})
	equal(t, "Changes of what was never founded", g.Changes(6), nil)
	equal(t, "Changes of no place", g.Changes(0), nil)
}

func TestChangesAtTheEdges(t *testing.T) {
	g := open(t, "0 found 1 0 a", "0 found 2 0 x", "0 merge 2 1", "96350 rename 1 b", "96351 rename 1 c", "100000 rename 1 d", "100000 found 3 1 e")
	equal(t, "Changes of 1", g.Changes(1), []int{0, 96350, 96351, 100000})
	equal(t, "Changes of a place that begins and ends on one day", g.Changes(2), nil)
	equal(t, "Changes of 3", g.Changes(3), []int{100000})
	equal(t, "Names on the last day but one", g.Names(1, 99999), []string{"a", "b", "c", "x"})
	equal(t, "Names on the last day", g.Names(1, 100000), []string{"b", "c", "d", "x"})
}

func TestChangesWithoutAnEventOnTheDay(t *testing.T) {
	g := open(t, "0 found 1 0 a", "96350 rename 1 b", "96350 found 2 0 c", "96351 rename 2 d")
	equal(t, "a name that ends with the last day but one", g.Changes(1), []int{0, 96350, 100000})
	equal(t, "a name that does not end", g.Changes(2), []int{96350, 96351})
}

func TestDaysBeforeAndBehindAll(t *testing.T) {
	g := open(t, "0 found 1 0 a", "0 found 2 1 b", "0 found 3 0 c", "0 merge 3 1")
	for _, day := range []int{-1 << 63, -100000, -1, 100001, 100002, 1<<63 - 1} {
		checkDay(t, g, g.Events(), day, 4)
		equal(t, "All", g.All(day), nil)
		same(t, "GoesOn", g.GoesOn(3, day), 0)
		same(t, "GoesOn", g.GoesOn(1, day), 0)
	}
	for _, day := range []int{0, 1, 99999, 100000} {
		checkDay(t, g, g.Events(), day, 4)
		equal(t, "All", g.All(day), []int{1, 2})
		same(t, "GoesOn", g.GoesOn(3, day), 1)
	}
	for _, place := range []int{-1 << 63, -1, 0, 4, 1000001, 1<<63 - 1} {
		for _, day := range []int{-1, 0, 100000, 100001} {
			same(t, "Exists", g.Exists(place, day), false)
			same(t, "Name", g.Name(place, day), "")
			equal(t, "Names", g.Names(place, day), nil)
			same(t, "Parent", g.Parent(place, day), 0)
			equal(t, "Path", g.Path(place, day), nil)
			equal(t, "Inside", g.Inside(place, day), nil)
			same(t, "Common", g.Common(place, 1, day), 0)
			same(t, "Common", g.Common(1, place, day), 0)
			same(t, "Common", g.Common(place, place, day), 0)
			same(t, "GoesOn", g.GoesOn(place, day), 0)
		}
		equal(t, "History", g.History(place), nil)
		equal(t, "Changes", g.Changes(place), nil)
	}
}

func TestMemoryDays(t *testing.T) {
	g := open(t, "100 found 1 0 a", "200 rename 1 b")
	equal(t, "the last day of the memory", g.Names(1, 3849), []string{"a", "b"})
	equal(t, "the day behind it", g.Names(1, 3850), []string{"b"})
	equal(t, "History", g.History(1), []api.NameUse{{Name: "a", Kind: 1, From: 100, Until: 3850}, {Name: "b", Kind: 1, From: 200, Until: 100001}})
	late := open(t, "96350 found 1 0 a", "96350 rename 1 b", "96351 rename 1 c", "96352 rename 1 d")
	equal(t, "History near the last day", late.History(1), []api.NameUse{{Name: "a", Kind: 1, From: 96350, Until: 100000}, {Name: "b", Kind: 1, From: 96350, Until: 100001}, {Name: "c", Kind: 1, From: 96351, Until: 100001}, {Name: "d", Kind: 1, From: 96352, Until: 100001}})
}

func TestNamesThatEndAndBeginAgain(t *testing.T) {
	g := open(t, "0 found 1 0 a", "10 rename 1 b", "3000 rename 1 a", "5000 rename 1 c", "6650 alias 1 b")
	equal(t, "both uses of a", g.Names(1, 3000), []string{"a", "b"})
	equal(t, "the new use of a", g.Names(1, 4999), []string{"a", "b"})
	equal(t, "a is remembered", g.Names(1, 6649), []string{"a", "b", "c"})
	equal(t, "b ends and begins again on one day", g.Names(1, 6650), []string{"a", "b", "c"})
	equal(t, "a has ended", g.Names(1, 8650), []string{"b", "c"})
	equal(t, "Changes", g.Changes(1), []int{0, 10, 5000, 8650})
	same(t, "an alias is not the true name", g.Name(1, 7000), "c")
	equal(t, "Called", g.Called("a", 8649), []int{1})
	equal(t, "Called", g.Called("a", 8650), nil)
}

func TestMerges(t *testing.T) {
	g := open(t, "0 found 1 0 a", "0 found 2 0 b", "0 found 3 2 c", "0 found 4 3 d", "1 alias 2 x", "1 alias 2 a", "1 alias 1 x", "2 rename 2 e", "3652 merge 2 1")
	// On this day, b has ended; e is the true name, and x and a are aliases; 1 has an open alias x, and an open true name a, which is no alias.
	equal(t, "History of 1", g.History(1), []api.NameUse{{Name: "a", Kind: 1, From: 0, Until: 100001}, {Name: "x", Kind: 2, From: 1, Until: 100001}, {Name: "a", Kind: 2, From: 3652, Until: 100001}, {Name: "e", Kind: 2, From: 3652, Until: 100001}})
	equal(t, "History of 2", g.History(2), []api.NameUse{{Name: "b", Kind: 1, From: 0, Until: 3652}, {Name: "x", Kind: 2, From: 1, Until: 3652}, {Name: "a", Kind: 2, From: 1, Until: 3652}, {Name: "e", Kind: 1, From: 2, Until: 3652}})
	same(t, "Parent of what was inside", g.Parent(3, 3652), 1)
	same(t, "Parent before", g.Parent(3, 3651), 2)
	equal(t, "Path of what was inside", g.Path(4, 3652), []int{3, 1})
	// merges of merged places: from the day of the merge on, all names and all that was inside move on
	same(t, "Add", g.Add(event(t, "3653 found 9 0 z")), api.OK)
	same(t, "Add", g.Add(event(t, "3653 merge 3 1")), api.OK)
	same(t, "Add", g.Add(event(t, "3654 merge 1 9")), api.OK)
	equal(t, "History of 9", g.History(9), []api.NameUse{{Name: "z", Kind: 1, From: 3653, Until: 100001}, {Name: "a", Kind: 2, From: 3654, Until: 100001}, {Name: "c", Kind: 2, From: 3654, Until: 100001}, {Name: "e", Kind: 2, From: 3654, Until: 100001}, {Name: "x", Kind: 2, From: 3654, Until: 100001}})
	for _, x := range []struct{ place, day, want int }{{2, 3651, 2}, {2, 3652, 1}, {2, 3653, 1}, {2, 3654, 9}, {3, 3653, 1}, {3, 3654, 9}, {1, 3654, 9}, {9, 3654, 9}, {9, 3652, 0}, {2, 100000, 9}} {
		same(t, fmt.Sprintf("GoesOn(%d, %d)", x.place, x.day), g.GoesOn(x.place, x.day), x.want)
	}
	equal(t, "Path", g.Path(4, 3654), []int{9})
}

func TestMergeKeepsNamesOfTheSameDay(t *testing.T) {
	g := open(t, "5 found 1 0 a", "5 found 2 0 b", "5 rename 2 c", "5 merge 2 1")
	equal(t, "Names", g.Names(1, 5), []string{"a", "b", "c"})
	equal(t, "Names on the last day", g.Names(1, 100000), []string{"a", "b", "c"})
	equal(t, "History", g.History(2), []api.NameUse{{Name: "b", Kind: 1, From: 5, Until: 5}, {Name: "c", Kind: 1, From: 5, Until: 5}})
	same(t, "Exists", g.Exists(2, 5), false)
	same(t, "GoesOn", g.GoesOn(2, 5), 1)
	same(t, "GoesOn before", g.GoesOn(2, 4), 0)
}

// P2.2.
func TestLaterEventsDoNotChangeEarlierDays(t *testing.T) {
	r := rand.New(rand.NewSource(7))
	for range 40 {
		events := randomEvents(r, 30, 6)
		rules := randomRules(r, 3)
		a := randomAuto(r)
		whole, _, _ := places.Open(events)
		for i, e := range events {
			until, _, _ := places.Open(events[:i])
			for _, day := range daysOf(events[:i]) {
				if day < e.Day {
					equal(t, "what is said of a day", sayings(whole, day, a, rules), sayings(until, day, a, rules))
				}
			}
		}
	}
}

// sayings returns the texts of all that a gazetteer says of a day.
func sayings(g *places.Gazetteer, day int, a api.Auto, l []api.Spell) []string {
	var list []string
	say := func(values ...any) { list = append(list, fmt.Sprint(values...)) }
	say(g.All(day), g.Called("a", day), g.Called("b", day))
	found, e := g.Find(day, 0, a, l, 1000)
	say(found, e)
	for place := range 7 {
		say(place, g.Exists(place, day), g.Name(place, day), g.Names(place, day), g.Parent(place, day), g.Path(place, day), g.Inside(place, day), g.Common(place, 1, day), g.GoesOn(place, day))
		cost, fits, e := g.Fits(place, day, a, l)
		say(cost, fits, e)
		m, fits, e := g.FitsRegion(place, day, a, l)
		say(m, fits, e)
		twins, e := g.Twins(place, day, l)
		say(twins, e)
		found, e := g.Find(day, place, a, l, 3)
		say(found, e)
	}
	return list
}

// P2.3.
func TestTheTreeOfEachDay(t *testing.T) {
	r := rand.New(rand.NewSource(8))
	for range 40 {
		events := randomEvents(r, 60, 14)
		g, _, _ := places.Open(events)
		for _, day := range daysOf(events) {
			for _, place := range g.All(day) {
				path := g.Path(place, day)
				if len(path) > 7 {
					t.Fatalf("Path(%d, %d) of %v is %v", place, day, events, path)
				}
				roots := 0
				for _, p := range append(path, place) {
					same(t, "Exists", g.Exists(p, day), true)
					same(t, "Inside", slices.Contains(g.Inside(p, day), place), true)
					if g.Parent(p, day) == 0 {
						roots++
					}
				}
				same(t, "roots around a place", roots, 1)
				parts := []int{place}
				for _, p := range g.All(day) {
					if g.Parent(p, day) == place {
						parts = append(parts, g.Inside(p, day)...)
					}
				}
				slices.Sort(parts)
				equal(t, "a place and what lies in its parts", g.Inside(place, day), parts)
			}
		}
	}
}

// P2.4.
func TestGoingOn(t *testing.T) {
	r := rand.New(rand.NewSource(9))
	for range 60 {
		events := randomEvents(r, 50, 7)
		g, _, _ := places.Open(events)
		days := daysOf(events)
		for place := 1; place <= 7; place++ {
			for i, d := range days {
				on := g.GoesOn(place, d)
				if on == 0 {
					continue
				}
				same(t, "Exists", g.Exists(on, d), true)
				for _, e := range days[i:] {
					if e <= 100000 {
						same(t, fmt.Sprintf("GoesOn(GoesOn(%d, %d), %d) of %v", place, d, e, events), g.GoesOn(on, e), g.GoesOn(place, e))
					}
				}
			}
		}
		for i, m := range events {
			if m.Kind != api.PlaceMerge {
				continue
			}
			before, _, _ := places.Open(events[:i])
			for _, name := range before.Names(m.Place, m.Day) {
				for _, e := range days {
					if e >= m.Day && e <= 100000 {
						same(t, fmt.Sprintf("the name %q of %d on the day %d of %v", name, m.Place, e, events), slices.Contains(g.Names(g.GoesOn(m.Place, e), e), name), true)
					}
				}
			}
		}
	}
}
