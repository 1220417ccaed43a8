package people_test

import (
	"fmt"
	"math/rand"
	"slices"
	"testing"

	"restante/api"
	"restante/people"
)

// one returns a value with true, if there is one, and otherwise the zero value and false, as text.
func one[T any](list []T) string {
	var zero T
	if len(list) == 0 {
		return fmt.Sprint(zero, false)
	}
	return fmt.Sprint(list[0], true)
}

// checkDay compares all that a list says of persons on a day with the oracle.
func checkDay(t *testing.T, l []api.Entry, day int) {
	t.Helper()
	at := func(what string, args ...any) string { return fmt.Sprintf("%s%v on the day %d", what, args, day) }
	persons, places := numbersIn(l)
	persons = sortedSet(append(persons, 0, 1, 99))
	equal(t, at("Pairs"), people.Pairs(l, day), pairsOf(l, persons, places, day))
	for _, person := range persons {
		equal(t, at("Names", person), people.Names(l, person, day), namesOf(l, person, day))
		same(t, at("Dead", person), people.Dead(l, person, day), deadOf(l, person, day))
		var dwellings []int
		for _, c := range pairsOf(l, []int{person}, places, day) {
			dwellings = append(dwellings, c.Place)
		}
		equal(t, at("Places", person), people.Places(l, person, day), dwellings)
		home, found := people.Home(l, person, day)
		same(t, at("Home", person), fmt.Sprint(home, found), one(homeOf(l, person, day)))
		heir, found := people.Heir(l, person, day)
		same(t, at("Heir", person), fmt.Sprint(heir, found), one(heirOf(l, person, day)))
		for _, place := range places {
			c := pair{Person: person, Place: place}
			same(t, at("Lives", c), people.Lives(l, c, day), livesOf(l, c, day))
		}
	}
	for _, place := range places {
		var dwellers []int
		for _, c := range pairsOf(l, persons, []int{place}, day) {
			dwellers = append(dwellers, c.Person)
		}
		equal(t, at("Dwellers", place), people.Dwellers(l, place, day), dwellers)
	}
	for _, name := range []string{"ann", "ann lee", "bob", "b", "", "A", "x"} {
		equal(t, at("Called", name), people.Called(l, name, day), calledOf(l, name, day))
	}
}

func TestDaysAgainstTheOracle(t *testing.T) {
	listsOf(t, 7, 60, func(l []api.Entry, r *rand.Rand) {
		equal(t, "Persons", people.Persons(l), personsOf(l))
		for day := -2; day < 18; day++ {
			checkDay(t, l, day)
		}
		checkDay(t, l, pick(r, -1000000, 100000, 100001, 1000000))
	})
}

// P3.3.
func TestDwellingsAgree(t *testing.T) {
	homes, dead := 0, 0
	listsOf(t, 8, 60, func(l []api.Entry, r *rand.Rand) {
		for day := range 16 {
			pairs := people.Pairs(l, day)
			persons, places := numbersIn(l)
			for _, person := range persons {
				for _, place := range places {
					c := pair{Person: person, Place: place}
					lives := people.Lives(l, c, day)
					same(t, "Pairs", slices.Contains(pairs, c), lives)
					same(t, "Places", slices.Contains(people.Places(l, person, day), place), lives)
					same(t, "Dwellers", slices.Contains(people.Dwellers(l, place, day), person), lives)
				}
				home, found := people.Home(l, person, day)
				same(t, "a home is a place", slices.Contains(people.Places(l, person, day), home), found)
				homes++
				if people.Dead(l, person, day) {
					dead++
					same(t, "the places and the home of the dead", fmt.Sprint(people.Places(l, person, day), home, found), "[] 0 false")
				}
			}
		}
	})
	if dead < 100 || homes == dead {
		t.Fatalf("%d of %d persons are dead", dead, homes)
	}
}

// The last entry of a person decides, whatever its days are; those that do not hold count for nothing.
func TestHomeAndHeir(t *testing.T) {
	l := valid(t, "0 name 1 0 0 a", "0 name 2 0 0 b", "0 name 3 0 0 c", "0 live 1 9 0 0", "0 live 1 4 5 8", "0 live 1 6 6 7", "0 live 1 5 2 6", "0 heir 1 2 0 0", "0 heir 1 3 3 5", "0 heir 2 1 4 0", "9 death 1 9")
	for day, want := range []string{"[9] 9 true 2 true", "[9] 9 true 2 true", "[5 9] 5 true 2 true", "[5 9] 5 true 3 true", "[5 9] 5 true 3 true", "[4 5 9] 5 true 2 true", "[4 6 9] 6 true 2 true", "[4 9] 4 true 2 true", "[9] 9 true 2 true", "[] 0 false 2 true"} {
		home, housed := people.Home(l, 1, day)
		heir, succeeded := people.Heir(l, 1, day)
		same(t, fmt.Sprintf("the day %d", day), fmt.Sprint(people.Places(l, 1, day), home, housed, heir, succeeded), want)
	}
	_, found := people.Heir(l, 3, 5)
	same(t, "without an heir", found, false)
	_, found = people.Home(l, 2, 5)
	same(t, "without a home", found, false)
}

// Names are kept after death; a name is said once, and those on other days are not.
func TestNames(t *testing.T) {
	l := valid(t, "0 name 1 0 0 b", "0 name 1 2 5 a", "0 name 1 3 6 a", "0 name 1 0 4 a b", "0 name 2 4 0 a", "0 death 1 5")
	for day, want := range []string{"[a b b] [] []", "[a b b] [] []", "[a a b b] [1] []", "[a a b b] [1] []", "[a b] [1 2] [a]", "[a b] [1 2] [a]", "[b] [2] [a]"} {
		same(t, fmt.Sprintf("the day %d", day), fmt.Sprint(people.Names(l, 1, day), people.Called(l, "a", day), people.Names(l, 2, day)), want)
	}
	equal(t, "Persons", people.Persons(valid(t, "0 name 7 5 6 b", "0 name 3 0 0 a", "0 name 7 0 0 a", "0 live 3 1 0 0")), []int{3, 7})
	equal(t, "Persons of an entry without a name", people.Persons(entries(t, "0 live 3 1 0 0", "0 heir 4 5 0 0")), nil)
}

// checkChanges compares Changes with what the oracle says of each day.
func checkChanges(t *testing.T, l []api.Entry, person int) {
	t.Helper()
	var want []int
	// behind the twentieth day nothing changes in the lists of this test but at the end
	for _, days := range [][2]int{{0, 20}, {99990, 100000}} {
		before := saidOf(l, person, days[0]-1)
		for day := days[0]; day <= days[1]; day++ {
			said := saidOf(l, person, day)
			if said != before {
				want = append(want, day)
			}
			before = said
		}
	}
	equal(t, fmt.Sprintf("Changes of %d", person), people.Changes(l, person), want)
}

// P3.8.
func TestChanges(t *testing.T) {
	listsOf(t, 9, 60, func(l []api.Entry, r *rand.Rand) {
		if len(l) > 0 && r.Intn(4) == 0 {
			l[r.Intn(len(l))].Until = pick(r, 99995, 100000, 100001)
		}
		persons, _ := numbersIn(l)
		for _, person := range append(persons, 99) {
			checkChanges(t, l, person)
		}
	})
}

// Each kind of change alone, days on which one entry takes the place of another one, and the bounds of the days.
func TestKindsOfChanges(t *testing.T) {
	for _, c := range []struct {
		lines []string
		want  []int
	}{
		{[]string{"0 name 1 3 6 a"}, []int{3, 6}},
		{[]string{"0 name 1 3 6 a", "0 name 1 6 9 a"}, []int{3, 9}},
		{[]string{"0 name 1 3 6 a", "0 name 1 6 9 b"}, []int{3, 6, 9}},
		{[]string{"0 live 1 3 6 9"}, []int{6, 9}},
		{[]string{"0 live 1 3 0 0", "0 live 1 4 0 0", "0 live 1 3 5 8"}, []int{0, 5, 8}},
		{[]string{"0 live 1 3 0 0", "0 live 1 3 5 8"}, []int{0}},
		{[]string{"0 live 1 3 0 5", "0 live 1 4 5 0"}, []int{0, 5}},
		{[]string{"0 live 1 3 4 8", "0 death 1 6"}, []int{4, 6}},
		{[]string{"0 death 1 100000"}, []int{100000}},
		{[]string{"0 heir 1 2 4 8"}, []int{4, 8}},
		{[]string{"0 heir 1 2 4 8", "0 heir 1 3 5 6"}, []int{4, 5, 6, 8}},
		{[]string{"0 heir 2 1 4 8", "0 redirect 1 1 2 1 3 4 8", "0 cancel 1 5", "0 refuse 1 2 0 4 8"}, nil},
		{[]string{"0 name 1 0 100000 a", "50 name 1 99999 0 b"}, []int{0, 99999, 100000}},
	} {
		equal(t, fmt.Sprintf("Changes in %v", c.lines), people.Changes(entries(t, c.lines...), 1), c.want)
	}
	beyond := []api.Entry{{Kind: 1, Person: 1, Name: "a", Since: -5, Until: 100001}, {Kind: 2, Person: 1, Place: 1, Since: 100001}, {Kind: 2, Person: 1, Place: 2, Since: -3, Until: -1}}
	equal(t, "Changes before the first day and after the last one", people.Changes(beyond, 1), nil)
	noPlace := []api.Entry{{Kind: 2, Person: 1, Since: 4, Until: 6}, {Kind: 4, Person: 2, Since: 4, Until: 6}}
	equal(t, "a home with the number 0", people.Changes(noPlace, 1), []int{4, 6})
	equal(t, "an heir with the number 0", people.Changes(noPlace, 2), []int{4, 6})
}
