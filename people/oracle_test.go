package people_test

import (
	"cmp"
	"fmt"
	"maps"
	"math/rand"
	"slices"
	"testing"

	"restante/api"
	"restante/people"
	"restante/reading"
)

// The oracles of the tests follow the definitions of the chapter word by word, without any of the package's own code.

type pair = api.Candidate

func holdsOn(x api.Entry, day int) bool {
	return x.Since <= day && (x.Until == 0 || day < x.Until)
}

// having returns the entries of a kind that hold on a day.
func having(l []api.Entry, kind uint8, day int) []api.Entry {
	var list []api.Entry
	for _, x := range l {
		if x.Kind == kind && holdsOn(x, day) {
			list = append(list, x)
		}
	}
	return list
}

// only returns the entries for which a condition is true.
func only(l []api.Entry, is func(api.Entry) bool) []api.Entry {
	return slices.DeleteFunc(slices.Clone(l), func(x api.Entry) bool { return !is(x) })
}

// sortedSet returns different values in ascending order.
func sortedSet[T cmp.Ordered](list []T) []T {
	return slices.Compact(slices.Sorted(slices.Values(list)))
}

func namesOf(l []api.Entry, person, day int) []string {
	var names []string
	for _, x := range having(l, 1, day) {
		if x.Person == person {
			names = append(names, x.Name)
		}
	}
	return sortedSet(names)
}

func calledOf(l []api.Entry, name string, day int) []int {
	var persons []int
	for _, person := range personsOf(l) {
		if slices.Contains(namesOf(l, person, day), name) {
			persons = append(persons, person)
		}
	}
	return persons
}

func personsOf(l []api.Entry) []int {
	var persons []int
	for _, x := range l {
		if x.Kind == 1 {
			persons = append(persons, x.Person)
		}
	}
	return sortedSet(persons)
}

func deadOf(l []api.Entry, person, day int) bool {
	return len(only(having(l, 3, day), func(x api.Entry) bool { return x.Person == person })) > 0
}

func livesOf(l []api.Entry, c pair, day int) bool {
	here := only(having(l, 2, day), func(x api.Entry) bool { return x.Person == c.Person && x.Place == c.Place })
	return !deadOf(l, c.Person, day) && len(here) > 0
}

// pairsOf returns the pairs of some persons and some places that live there.
func pairsOf(l []api.Entry, persons, places []int, day int) []pair {
	var list []pair
	for _, person := range persons {
		for _, place := range places {
			if livesOf(l, pair{Person: person, Place: place}, day) {
				list = append(list, pair{Person: person, Place: place})
			}
		}
	}
	return list
}

// homeOf returns the homes of a person: one or none.
func homeOf(l []api.Entry, person, day int) []int {
	all := only(having(l, 2, day), func(x api.Entry) bool { return x.Person == person })
	if deadOf(l, person, day) || len(all) == 0 {
		return nil
	}
	return []int{all[len(all)-1].Place}
}

// heirOf returns the heirs of a person: one or none.
func heirOf(l []api.Entry, person, day int) []int {
	all := only(having(l, 4, day), func(x api.Entry) bool { return x.Person == person })
	if len(all) == 0 {
		return nil
	}
	return []int{all[len(all)-1].Other}
}

// reachedAt returns the pairs to which a person is reached: one or none.
func reachedAt(l []api.Entry, person, day int) []pair {
	if deadOf(l, person, day) {
		return []pair{{Person: person}}
	}
	for _, home := range homeOf(l, person, day) {
		return []pair{{Person: person, Place: home}}
	}
	return nil
}

// targetOf returns the targets of an order: one or none.
func targetOf(l []api.Entry, x api.Entry, day int) []pair {
	if x.At != 0 {
		return []pair{{Person: x.Other, Place: x.At}}
	}
	return reachedAt(l, x.Other, day)
}

func appliesTo(l []api.Entry, x api.Entry, c pair, day int) bool {
	cancels := only(having(l, 6, day), func(y api.Entry) bool { return y.Order == x.Order })
	return x.Kind == 5 && !deadOf(l, c.Person, day) && x.Person == c.Person && (x.Place == 0 || x.Place == c.Place) && holdsOn(x, day) &&
		len(cancels) == 0 && !slices.Contains(targetOf(l, x, day), c)
}

// orderOf returns the orders of a pair: one or none.
func orderOf(l []api.Entry, c pair, day int) []api.Entry {
	all := only(l, func(x api.Entry) bool { return appliesTo(l, x, c, day) })
	if here := only(all, func(x api.Entry) bool { return x.Place != 0 }); len(here) > 0 {
		all = here
	}
	if len(all) == 0 {
		return nil
	}
	return all[len(all)-1:]
}

func refusesAt(l []api.Entry, c pair, sender, day int) bool {
	return !deadOf(l, c.Person, day) && len(only(having(l, 7, day), func(x api.Entry) bool {
		return x.Person == c.Person && (x.Place == 0 || x.Place == c.Place) && (x.Other == 0 || x.Other == sender)
	})) > 0
}

// hopsOf returns the hops of a pair, one or none; To is an empty slice in all if it leads to no pair, which is then that of homeless and the place 0.
func hopsOf(l []api.Entry, c pair, day int) (hops []api.Hop, to []pair, homeless int) {
	if deadOf(l, c.Person, day) {
		for _, heir := range heirOf(l, c.Person, day) {
			hops, to, homeless = []api.Hop{{Kind: 2, From: c}}, reachedAt(l, heir, day), heir
		}
	} else {
		for _, x := range orderOf(l, c, day) {
			hops, to, homeless = []api.Hop{{Kind: 1, From: c, Order: x.Order}}, targetOf(l, x, day), x.Other
		}
	}
	if len(to) > 0 {
		hops[0].To = to[0]
	}
	return hops, to, homeless
}

// routeOf follows from the last one of the pairs that were met; their hops are those of the route.
func routeOf(l []api.Entry, met []pair, hops []api.Hop, sender, day int) api.Route {
	c := met[len(met)-1]
	hop, to, homeless := hopsOf(l, c, day)
	switch {
	case deadOf(l, c.Person, day) && len(heirOf(l, c.Person, day)) == 0:
		return api.Route{Kind: 3, End: c, Hops: hops}
	case refusesAt(l, c, sender, day):
		return api.Route{Kind: 2, End: c, Hops: hops}
	case len(hop) > 0 && len(to) == 0:
		return api.Route{Kind: 5, End: pair{Person: homeless}, Hops: hops}
	case len(hop) > 0 && slices.Contains(met, to[0]):
		return api.Route{Kind: 6, End: to[0], Hops: append(hops, hop[0]), Back: slices.Index(met, to[0])}
	case len(hop) > 0:
		return routeOf(l, append(met, to[0]), append(hops, hop[0]), sender, day)
	case livesOf(l, c, day):
		return api.Route{Kind: 1, End: c, Hops: hops}
	}
	return api.Route{Kind: 4, End: c, Hops: hops}
}

// numbersIn returns all numbers of persons and of places in a list, also where its entries have no such field, and the place 0.
func numbersIn(l []api.Entry) (persons, places []int) {
	places = []int{0}
	for _, x := range l {
		persons = append(persons, x.Person, x.Other)
		places = append(places, x.Place, x.At)
	}
	return sortedSet(persons), sortedSet(places)
}

func comparePairs(a, b pair) int {
	return cmp.Or(cmp.Compare(a.Person, b.Person), cmp.Compare(a.Place, b.Place))
}

// circlesOf tries every pair of the numbers in the list as the least one of a circle.
func circlesOf(l []api.Entry, day int) [][]pair {
	next := map[pair]pair{}
	persons, places := numbersIn(l)
	for _, person := range persons {
		for _, place := range places {
			c := pair{Person: person, Place: place}
			if _, to, _ := hopsOf(l, c, day); len(to) > 0 {
				next[c] = to[0]
			}
		}
	}
	var circles [][]pair
	for _, first := range slices.SortedFunc(maps.Keys(next), comparePairs) {
		circle := []pair{first}
		c, leads := next[first]
		for leads && c != first && len(circle) <= len(next) {
			circle = append(circle, c)
			c, leads = next[c]
		}
		if leads && c == first && slices.MinFunc(circle, comparePairs) == first {
			circles = append(circles, circle)
		}
	}
	return circles
}

// saidOf is all that Changes compares of a person.
func saidOf(l []api.Entry, person, day int) string {
	_, places := numbersIn(l)
	return fmt.Sprintf("%q %v %v %v %v", namesOf(l, person, day), deadOf(l, person, day), pairsOf(l, []int{person}, places, day), homeOf(l, person, day), heirOf(l, person, day))
}

// formError is the error of an entry by itself.
func formError(x api.Entry) api.Errno {
	id := func(n int) bool { return 1 <= n && n <= 1000000 }
	idOr0 := func(n int) bool { return 0 <= n && n <= 1000000 }
	zero := func(list ...int) bool { return !slices.ContainsFunc(list, func(n int) bool { return n != 0 }) }
	good := 0 <= x.Day && x.Day <= 100000 && 0 <= x.Since && x.Since <= 100000 && (x.Until == 0 || x.Until > x.Since && x.Until <= 100000)
	good = good && (x.Kind == 1 || x.Name == "")
	switch x.Kind {
	case 1:
		good = good && id(x.Person) && zero(x.Place, x.Other, x.At, x.Order)
	case 2:
		good = good && id(x.Person) && id(x.Place) && zero(x.Other, x.At, x.Order)
	case 3:
		good = good && id(x.Person) && zero(x.Place, x.Other, x.At, x.Order, x.Until)
	case 4:
		good = good && id(x.Person) && id(x.Other) && x.Person != x.Other && zero(x.Place, x.At, x.Order)
	case 5:
		good = good && id(x.Order) && id(x.Person) && id(x.Other) && idOr0(x.Place) && idOr0(x.At)
	case 6:
		good = good && id(x.Order) && zero(x.Person, x.Place, x.Other, x.At, x.Until)
	case 7:
		good = good && id(x.Person) && idOr0(x.Place) && idOr0(x.Other) && zero(x.At, x.Order)
	default:
		good = false
	}
	if !good {
		return api.ErrArg
	}
	if x.Kind == 1 && !reading.IsName(x.Name) {
		return api.ErrForm
	}
	return api.OK
}

// nextError is the error of an entry behind others.
func nextError(before []api.Entry, x api.Entry) api.Errno {
	has := func(kind uint8, is func(api.Entry) bool) bool {
		return slices.ContainsFunc(before, func(y api.Entry) bool { return y.Kind == kind && is(y) })
	}
	named := func(person int) bool { return has(1, func(y api.Entry) bool { return y.Person == person }) }
	order := func(y api.Entry) bool { return y.Order == x.Order }
	if e := formError(x); e != api.OK {
		return e
	}
	if len(before) == 400 {
		return api.ErrLimit
	}
	if n := len(before); n > 0 && x.Day < before[n-1].Day {
		return api.ErrTime
	}
	if x.Kind != 1 && (x.Person != 0 && !named(x.Person) || x.Other != 0 && !named(x.Other)) {
		return api.ErrNone
	}
	if x.Kind == 3 && has(3, func(y api.Entry) bool { return y.Person == x.Person }) || x.Kind == 5 && has(5, order) {
		return api.ErrTwice
	}
	if x.Kind == 6 && !has(5, order) {
		return api.ErrNone
	}
	if x.Kind == 6 && has(6, order) {
		return api.ErrTwice
	}
	return api.OK
}

// checkOf returns what Check returns.
func checkOf(l []api.Entry) (int, api.Errno) {
	for i, x := range l {
		if e := nextError(l[:i], x); e != api.OK {
			return i, e
		}
	}
	return 0, api.OK
}

// lineOf is the line of a well-formed entry.
func lineOf(x api.Entry) string {
	switch x.Kind {
	case 1:
		return fmt.Sprintf("%d name %d %d %d %s", x.Day, x.Person, x.Since, x.Until, x.Name)
	case 2:
		return fmt.Sprintf("%d live %d %d %d %d", x.Day, x.Person, x.Place, x.Since, x.Until)
	case 3:
		return fmt.Sprintf("%d death %d %d", x.Day, x.Person, x.Since)
	case 4:
		return fmt.Sprintf("%d heir %d %d %d %d", x.Day, x.Person, x.Other, x.Since, x.Until)
	case 5:
		return fmt.Sprintf("%d redirect %d %d %d %d %d %d %d", x.Day, x.Order, x.Person, x.Place, x.Other, x.At, x.Since, x.Until)
	case 6:
		return fmt.Sprintf("%d cancel %d %d", x.Day, x.Order, x.Since)
	}
	return fmt.Sprintf("%d refuse %d %d %d %d %d", x.Day, x.Person, x.Place, x.Other, x.Since, x.Until)
}

// entry returns the entry of a line.
func entry(t *testing.T, line string) api.Entry {
	t.Helper()
	x, e := people.Read(line)
	if e != api.OK {
		t.Fatalf("Read(%q) returns the error %d", line, e)
	}
	return x
}

// entries returns the entries of lines, whether their list is valid or not.
func entries(t *testing.T, lines ...string) []api.Entry {
	t.Helper()
	var l []api.Entry
	for _, line := range lines {
		l = append(l, entry(t, line))
	}
	return l
}

// valid returns the entries of lines, of which the list is valid.
func valid(t *testing.T, lines ...string) []api.Entry {
	t.Helper()
	l := entries(t, lines...)
	if i, e := people.Check(l); e != api.OK {
		t.Fatalf("Check refuses the entry %d, %q, with the error %d", i, lines[i], e)
	}
	return l
}

// sample is the list of the chapter's examples, with more lines.
func sample(t *testing.T, more ...string) []api.Entry {
	t.Helper()
	return valid(t, append([]string{"0 name 1 0 0 ann lee", "0 name 2 0 0 bob lee", "0 live 1 7 0 50", "0 live 2 8 0 0", "40 live 1 9 50 0", "40 redirect 5 1 7 1 0 50 80", "60 death 2 60", "60 heir 2 1 60 0", "70 refuse 1 9 2 70 75"}, more...)...)
}

// equal compares slices; nil and empty ones are equivalent.
func equal[T comparable](t *testing.T, what string, got, want []T) {
	t.Helper()
	if !slices.Equal(got, want) {
		t.Fatalf("%s: got %v; want %v", what, got, want)
	}
}

func same[T comparable](t *testing.T, what string, got, want T) {
	t.Helper()
	if got != want {
		t.Fatalf("%s: got %v; want %v", what, got, want)
	}
}

// sameRoute compares routes.
func sameRoute(t *testing.T, what string, got, want api.Route) {
	t.Helper()
	same(t, what, fmt.Sprint(got), fmt.Sprint(want))
}

func pick[T any](r *rand.Rand, list ...T) T { return list[r.Intn(len(list))] }

// randomEntry returns an entry that is mostly well-formed, with few persons, places, orders and days.
func randomEntry(r *rand.Rand, day int) api.Entry {
	id := func() int { return 1 + r.Intn(4) }
	x := api.Entry{Day: day + pick(r, 0, 0, 0, 1, 2), Kind: uint8(pick(r, 1, 1, 2, 2, 2, 3, 4, 4, 5, 5, 5, 5, 6, 7)), Since: r.Intn(8)}
	if r.Intn(2) == 0 && x.Kind != 3 && x.Kind != 6 {
		x.Until = x.Since + 1 + r.Intn(8)
	}
	if x.Kind != 6 {
		x.Person = id()
	}
	switch x.Kind {
	case 1:
		x.Name = pick(r, "ann", "ann lee", "bob", "b")
	case 2:
		x.Place = id()
	case 4:
		x.Other = id()
	case 5:
		x.Order, x.Other, x.Place, x.At = 1+r.Intn(9), id(), pick(r, 0, id(), id()), pick(r, 0, id(), id())
	case 6:
		x.Order = 1 + r.Intn(9)
	case 7:
		x.Place, x.Other = pick(r, 0, id()), pick(r, 0, id())
	}
	if r.Intn(30) == 0 {
		x.Day -= 3
	}
	return x
}

// randomValid returns a valid list.
func randomValid(r *rand.Rand, tries int) []api.Entry {
	l := []api.Entry{}
	for person := 1; person <= 4; person++ {
		l = append(l, api.Entry{Kind: 1, Person: person, Name: pick(r, "ann", "bob")})
	}
	day := 0
	for range tries {
		x := randomEntry(r, day)
		if nextError(l, x) == api.OK {
			l = append(l, x)
			day = x.Day
		}
	}
	return l
}

// randomList returns any list: with entries that no valid list has, and fields that the table does not name.
func randomList(r *rand.Rand, n int) []api.Entry {
	var l []api.Entry
	for range n {
		x := randomEntry(r, r.Intn(9))
		field := pick(r, &x.Since, &x.Until, &x.Person, &x.Place, &x.Other, &x.At, &x.Order)
		switch r.Intn(6) {
		case 0:
			*field = pick(r, -1, 0, 1, 2, 3, 7)
		case 1:
			x.Kind = uint8(pick(r, 0, 1, 2, 3, 4, 5, 6, 7, 8, 255))
		case 2:
			x.Name = pick(r, "", "ann", "A", " ")
		case 3:
			if x.Kind == 4 {
				x.Other = x.Person
			}
		}
		l = append(l, x)
	}
	return l
}

// tangledList returns a valid list with many orders from place to place, and so with many circles.
func tangledList(r *rand.Rand) []api.Entry {
	l := []api.Entry{{Kind: 1, Person: 1, Name: "ann"}, {Kind: 1, Person: 2, Name: "bob"}, {Kind: 1, Person: 3, Name: "eve"}}
	for person := 1; person <= 3; person++ {
		l = append(l, api.Entry{Kind: 2, Person: person, Place: 1 + r.Intn(3)})
		if r.Intn(3) == 0 {
			l = append(l, api.Entry{Kind: 3, Person: person, Since: r.Intn(16)}, api.Entry{Kind: 4, Person: person, Other: person%3 + 1})
		}
		if r.Intn(6) == 0 {
			l = append(l, api.Entry{Kind: 7, Person: person, Place: 1 + r.Intn(3), Since: r.Intn(16)})
		}
	}
	for order := range 6 + r.Intn(12) {
		l = append(l, api.Entry{Kind: 5, Order: 1 + order, Person: 1 + r.Intn(3), Place: r.Intn(4), Other: 1 + r.Intn(3), At: r.Intn(4), Since: r.Intn(4)})
	}
	return l
}

// listsOf calls a test with many lists: valid ones, tangled ones, and any ones. It shows the list if the test fails.
func listsOf(t *testing.T, seed int64, n int, test func(l []api.Entry, r *rand.Rand)) {
	t.Helper()
	r := rand.New(rand.NewSource(seed))
	try := func(l []api.Entry) {
		t.Helper()
		defer func() {
			if t.Failed() {
				t.Logf("the list is %+v", l)
			}
		}()
		test(l, r)
	}
	for range n {
		try(randomValid(r, 5+r.Intn(40)))
		tangled := tangledList(r)
		_, e := people.Check(tangled)
		same(t, "Check of a tangled list", e, api.OK)
		try(tangled)
		try(randomList(r, r.Intn(25)))
	}
}
