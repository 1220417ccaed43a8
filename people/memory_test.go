package people_test

import (
	"fmt"
	"math"
	"slices"
	"testing"

	"restante/api"
	"restante/people"
)

// whole returns all that is in a slice and in the memory behind it.
func whole[T any](s []T) []T { return s[:cap(s)] }

// spoil changes all that is in a slice and in the memory behind it.
func spoil[T any](s []T) {
	var zero T
	for i := range whole(s) {
		whole(s)[i] = zero
	}
}

// loopList has two circles on the day 80, and a route of several hops.
func loopList(t *testing.T) []api.Entry {
	t.Helper()
	return sample(t, "80 redirect 6 1 9 1 7 80 0", "80 redirect 7 1 7 1 9 80 0", "80 redirect 8 1 3 1 4 0 0", "80 redirect 9 1 4 1 3 0 0")
}

// all is what the functions say of a list, as text.
func all(l []api.Entry) string {
	text := fmt.Sprintln(people.Check(l)) + fmt.Sprintln(people.Persons(l), people.Changes(l, 1), people.Changes(l, 2))
	for _, day := range []int{0, 55, 65, 80} {
		c := pair{Person: 1, Place: 7}
		text += fmt.Sprintln(people.Known(l, day), people.Names(l, 1, day), people.Called(l, "bob lee", day), people.Dead(l, 2, day), people.Places(l, 1, day), people.Dwellers(l, 9, day), people.Pairs(l, day), people.Lives(l, c, day), people.Refuses(l, c, 0, day))
		text += fmt.Sprintln(people.Home(l, 1, day)) + fmt.Sprintln(people.Heir(l, 2, day)) + fmt.Sprintln(people.Order(l, c, day)) + fmt.Sprintln(people.Follow(l, c, 0, day)) + fmt.Sprintln(people.Loops(l, day))
	}
	return text
}

// R3.
func TestResultsAreNewMemory(t *testing.T) {
	l := loopList(t)
	before := all(l)
	for _, day := range []int{0, 55, 65, 80, 90} {
		spoil(people.Known(l, day))
		spoil(people.Names(l, 1, day))
		spoil(people.Called(l, "bob lee", day))
		spoil(people.Places(l, 1, day))
		spoil(people.Dwellers(l, 9, day))
		spoil(people.Pairs(l, day))
		r := follow(t, l, pair{Person: 1, Place: 7}, 0, day)
		spoil(r.Hops)
	}
	spoil(people.Persons(l))
	spoil(people.Changes(l, 1))
	longer, e := people.Append(l, entry(t, "80 death 1 90"))
	same(t, "Append", e, api.OK)
	spoil(longer)
	same(t, "all that the list says", all(l), before)
	loops, e := people.Loops(l, 80)
	same(t, "Loops", fmt.Sprint(loops, e), "[[{1 3} {1 4}] [{1 7} {1 9}]] 0")
	second := slices.Clone(loops[1])
	spoil(loops[0])
	equal(t, "the second circle", loops[1], second)
}

func TestArgumentsAreNotChanged(t *testing.T) {
	l := slices.Grow(loopList(t), 10)
	text := fmt.Sprint(whole(l))
	all(l)
	_, e := people.Append(l, entry(t, "80 death 1 90"))
	same(t, "Append", e, api.OK)
	same(t, "the list and the memory behind it", fmt.Sprint(whole(l)), text)
	r := api.Route{Kind: 1, Hops: []api.Hop{{Kind: 1}, {Kind: 2}}}
	people.CheckRoute(l, pair{Person: 1, Place: 7}, 0, 80, r)
	same(t, "the route", fmt.Sprint(r), fmt.Sprint(api.Route{Kind: 1, Hops: []api.Hop{{Kind: 1}, {Kind: 2}}}))
	// two lists that begin alike do not know of each other
	a, _ := people.Append(l, entry(t, "80 live 1 1 0 0"))
	b, _ := people.Append(l, entry(t, "80 live 1 2 0 0"))
	same(t, "the last entries", fmt.Sprint(a[len(l)].Place, b[len(l)].Place), "1 2")
}

// R4.
func TestCallsAreRepeatable(t *testing.T) {
	l := loopList(t)
	before := all(l)
	for range 5 {
		same(t, "all that the list says", all(l), before)
	}
}

// R3.
func TestEmptyLists(t *testing.T) {
	for _, l := range [][]api.Entry{nil, {}} {
		i, e := people.Check(l)
		same(t, "Check", fmt.Sprint(i, e), "0 0")
		equal(t, "Persons", people.Persons(l), nil)
		equal(t, "Changes", people.Changes(l, 1), nil)
		equal(t, "Pairs", people.Pairs(l, 5), nil)
		same(t, "Follow", fmt.Sprint(follow(t, l, pair{Person: 1, Place: 1}, 0, 5)), "{4 {1 1} [] 0}")
		loops, e := people.Loops(l, 5)
		same(t, "Loops", fmt.Sprint(len(loops), e), "0 0")
	}
}

// R1: extreme arguments, fields with any values.
func TestExtremes(t *testing.T) {
	numbers := []int{math.MinInt, math.MinInt + 1, -1, 0, 1, 2, 100000, 100001, 1000000, 1000001, math.MaxInt - 1, math.MaxInt}
	for _, n := range numbers {
		for _, m := range numbers {
			var l []api.Entry
			for kind := range 9 {
				l = append(l, api.Entry{Day: n, Kind: uint8(kind), Since: n, Until: m, Person: n, Place: m, Other: m, At: n, Order: n, Name: "a"})
			}
			i, e := people.Check(l)
			same(t, fmt.Sprintf("Check of %+v", l), fmt.Sprint(i, e), fmt.Sprint(0, api.ErrArg))
			_, e = people.Append(l, l[0])
			same(t, "Append", e, api.ErrArg)
			equal(t, "Known", people.Known(l, n), l)
			equal(t, "Persons", people.Persons(l), []int{n})
			for _, day := range numbers {
				checkDay(t, l, day)
				c := pair{Person: n, Place: m}
				order, found := people.Order(l, c, day)
				same(t, fmt.Sprintf("Order on the day %d of %+v", day, l), fmt.Sprint(order, found), one(orderOf(l, c, day)))
				same(t, "Refuses", people.Refuses(l, c, m, day), refusesAt(l, c, m, day))
				if day < 0 || day > 100000 {
					continue
				}
				loops, e := people.Loops(l, day)
				same(t, fmt.Sprintf("Loops on the day %d of %+v", day, l), fmt.Sprint(loops, e), fmt.Sprint(circlesOf(l, day), api.OK))
			}
			for _, day := range people.Changes(l, n) {
				same(t, fmt.Sprintf("the day %d of %+v", day, l), day >= 0 && day <= 100000 && saidOf(l, n, day) != saidOf(l, n, day-1), true)
			}
		}
	}
}

// Lists that are longer than any valid one are accepted by all functions but Check and Append.
func TestLongLists(t *testing.T) {
	l := entries(t, "0 name 1 0 0 a")
	for i := 1; i <= 2000; i++ {
		l = append(l, api.Entry{Kind: 2, Person: i, Place: i}, api.Entry{Kind: 5, Order: i, Person: i, Other: i%2000 + 1})
	}
	same(t, "Pairs", len(people.Pairs(l, 5)), 2000)
	loops, e := people.Loops(l, 5)
	same(t, "Loops", fmt.Sprint(len(loops), len(loops[0]), e), "1 2000 0")
	r := follow(t, l, pair{Person: 3, Place: 3}, 0, 5)
	same(t, "the route", fmt.Sprint(r.Kind, r.End, len(r.Hops)), "6 {3 3} 2000")
	i, e := people.Check(l)
	same(t, "Check", fmt.Sprint(i, e), fmt.Sprint(2, api.ErrNone))
}
