package people_test

import (
	"fmt"
	"math"
	"math/rand"
	"slices"
	"testing"

	"restante/api"
	"restante/people"
)

// starts returns the pairs of the ids of a list from which it can be followed, and some that it does not name.
func starts(l []api.Entry) []pair {
	persons, places := numbersIn(l)
	var list []pair
	for _, person := range sortedSet(append(persons, 1, 99)) {
		for _, place := range sortedSet(append(places, 1, 99)) {
			if person > 0 && place > 0 {
				list = append(list, pair{Person: person, Place: place})
			}
		}
	}
	return list
}

// follow returns the route from a pair.
func follow(t *testing.T, l []api.Entry, c pair, sender, day int) api.Route {
	t.Helper()
	r, e := people.Follow(l, c, sender, day)
	same(t, fmt.Sprintf("Follow from %v on the day %d", c, day), e, api.OK)
	return r
}

func TestRoutesAgainstTheOracle(t *testing.T) {
	kinds := map[uint8]int{}
	long := 0
	listsOf(t, 10, 80, func(l []api.Entry, r *rand.Rand) {
		for day := range 16 {
			for _, c := range starts(l) {
				sender := r.Intn(5)
				at := func(what string) string { return fmt.Sprintf("%s of %v on the day %d", what, c, day) }
				same(t, at("Refuses"), people.Refuses(l, c, sender, day), refusesAt(l, c, sender, day))
				order, found := people.Order(l, c, day)
				same(t, at("Order"), fmt.Sprint(order, found), one(orderOf(l, c, day)))
				route := follow(t, l, c, sender, day)
				sameRoute(t, at("Follow"), route, routeOf(l, []pair{c}, nil, sender, day))
				kinds[route.Kind]++
				if len(route.Hops) > 2 {
					long++
				}
			}
		}
	})
	for kind := uint8(1); kind <= 6; kind++ {
		if kinds[kind] < 500 {
			t.Errorf("only %d routes of the kind %d", kinds[kind], kind)
		}
	}
	if long < 500 {
		t.Errorf("only %d routes of more than two hops", long)
	}
}

// Pairs that no thing starts from: of persons and places without ids.
func TestOrdersOfAnyPairs(t *testing.T) {
	listsOf(t, 11, 60, func(l []api.Entry, r *rand.Rand) {
		persons, places := numbersIn(l)
		day := r.Intn(16)
		for _, person := range append(persons, 0, -1) {
			for _, place := range append(places, -1) {
				c := pair{Person: person, Place: place}
				order, found := people.Order(l, c, day)
				same(t, fmt.Sprintf("Order of %v on the day %d", c, day), fmt.Sprint(order, found), one(orderOf(l, c, day)))
				same(t, fmt.Sprintf("Refuses of %v on the day %d", c, day), people.Refuses(l, c, -1, day), refusesAt(l, c, -1, day))
			}
		}
	})
}

// routes are named cases; each is followed from the person 1 at the place 1 on the day 5, from the sender 3.
var routes = []struct {
	name  string
	lines []string
	want  string
}{
	{"a dweller", []string{"0 live 1 1 0 0"}, "{1 {1 1} [] 0}"},
	{"who lives elsewhere", []string{"0 live 1 2 0 0"}, "{4 {1 1} [] 0}"},
	{"the dead without an heir", []string{"0 live 1 1 0 0", "0 death 1 5"}, "{3 {1 1} [] 0}"},
	{"the dead with an heir before", []string{"0 live 1 1 0 0", "0 heir 1 2 0 5", "0 death 1 5"}, "{3 {1 1} [] 0}"},
	{"the dead refuse nothing and have no orders", []string{"0 refuse 1 0 0 0 0", "0 redirect 1 1 0 2 2 0 0", "0 death 1 5"}, "{3 {1 1} [] 0}"},
	{"an heir at home", []string{"0 live 2 7 0 0", "0 live 2 8 0 0", "0 heir 1 2 0 0", "0 death 1 5"}, "{1 {2 8} [{2 {1 1} {2 8} 0}] 0}"},
	{"an heir of the living", []string{"0 live 1 1 0 0", "0 live 2 7 0 0", "0 heir 1 2 0 0"}, "{1 {1 1} [] 0}"},
	{"an heir without a home", []string{"0 heir 1 2 0 0", "0 death 1 5"}, "{5 {2 0} [] 0}"},
	{"an heir who is dead, with an heir", []string{"0 live 3 9 0 0", "0 heir 1 2 0 0", "0 heir 2 3 0 0", "0 death 1 5", "0 death 2 5"}, "{1 {3 9} [{2 {1 1} {2 0} 0} {2 {2 0} {3 9} 0}] 0}"},
	{"an heir who is dead, without an heir", []string{"0 heir 1 2 0 0", "0 death 1 5", "0 death 2 5"}, "{3 {2 0} [{2 {1 1} {2 0} 0}] 0}"},
	{"heirs of each other", []string{"0 heir 1 2 0 0", "0 heir 2 1 0 0", "0 death 1 5", "0 death 2 5"}, "{6 {2 0} [{2 {1 1} {2 0} 0} {2 {2 0} {1 0} 0} {2 {1 0} {2 0} 0}] 1}"},
	{"a refusal", []string{"0 live 1 1 0 0", "0 refuse 1 1 3 5 6"}, "{2 {1 1} [] 0}"},
	{"a refusal of anything", []string{"0 live 1 1 0 0", "0 refuse 1 0 0 0 0"}, "{2 {1 1} [] 0}"},
	{"a refusal elsewhere", []string{"0 live 1 1 0 0", "0 refuse 1 2 3 0 0"}, "{1 {1 1} [] 0}"},
	{"a refusal from another sender", []string{"0 live 1 1 0 0", "0 refuse 1 1 2 0 0"}, "{1 {1 1} [] 0}"},
	{"a refusal that is over", []string{"0 live 1 1 0 0", "0 refuse 1 1 3 0 5"}, "{1 {1 1} [] 0}"},
	{"a refusal of another person", []string{"0 live 1 1 0 0", "0 refuse 2 0 0 0 0"}, "{1 {1 1} [] 0}"},
	{"a refusal and an order", []string{"0 live 2 2 0 0", "0 redirect 1 1 0 2 0 0 0", "0 refuse 1 1 3 0 0"}, "{2 {1 1} [] 0}"},
	{"a refusal and an order to the homeless", []string{"0 redirect 1 1 0 2 0 0 0", "0 refuse 1 1 3 0 0"}, "{2 {1 1} [] 0}"},
	{"a refusal behind an order", []string{"0 live 2 2 0 0", "0 redirect 1 1 0 2 0 0 0", "0 refuse 2 2 3 0 0"}, "{2 {2 2} [{1 {1 1} {2 2} 1}] 0}"},
	{"a refusal in a circle", []string{"0 redirect 1 1 1 1 2 0 0", "0 redirect 2 1 2 1 1 0 0", "0 refuse 1 2 3 0 0"}, "{2 {1 2} [{1 {1 1} {1 2} 1}] 0}"},
	{"an order to a place", []string{"0 live 2 2 0 0", "0 redirect 1 1 1 2 3 0 0"}, "{4 {2 3} [{1 {1 1} {2 3} 1}] 0}"},
	{"an order to a dwelling", []string{"0 live 2 2 0 0", "0 redirect 1 1 1 2 0 0 0"}, "{1 {2 2} [{1 {1 1} {2 2} 1}] 0}"},
	{"an order to the homeless", []string{"0 live 1 1 0 0", "0 redirect 1 1 1 2 0 0 0"}, "{5 {2 0} [] 0}"},
	{"an order to a place of the homeless", []string{"0 redirect 1 1 1 2 3 0 0"}, "{4 {2 3} [{1 {1 1} {2 3} 1}] 0}"},
	{"an order to the dead", []string{"0 redirect 1 1 1 2 0 0 0", "0 death 2 5"}, "{3 {2 0} [{1 {1 1} {2 0} 1}] 0}"},
	{"an order to a place of the dead", []string{"0 redirect 1 1 1 2 3 0 0", "0 death 2 5"}, "{3 {2 3} [{1 {1 1} {2 3} 1}] 0}"},
	{"an order to the homeless behind a hop", []string{"0 redirect 1 1 1 1 2 0 0", "0 redirect 2 1 2 2 0 0 0"}, "{5 {2 0} [{1 {1 1} {1 2} 1}] 0}"},
	{"an order for another place", []string{"0 live 1 1 0 0", "0 redirect 1 1 2 2 3 0 0"}, "{1 {1 1} [] 0}"},
	{"an order of another person", []string{"0 live 1 1 0 0", "0 redirect 1 2 1 2 3 0 0"}, "{1 {1 1} [] 0}"},
	{"an order that is over", []string{"0 live 1 1 0 0", "0 redirect 1 1 1 2 3 0 5"}, "{1 {1 1} [] 0}"},
	{"an order to the pair itself", []string{"0 live 1 1 0 0", "0 redirect 1 1 1 1 1 0 0", "0 redirect 2 1 0 1 0 0 0"}, "{1 {1 1} [] 0}"},
	{"an order to the own home", []string{"0 live 1 1 0 0", "0 live 1 2 0 0", "0 redirect 1 1 0 1 0 0 0"}, "{1 {1 2} [{1 {1 1} {1 2} 1}] 0}"},
	{"an order to the own home, without one", []string{"0 redirect 1 1 0 1 0 0 0"}, "{5 {1 0} [] 0}"},
	{"the last order", []string{"0 redirect 1 1 1 2 3 0 0", "0 redirect 2 1 1 2 4 0 0"}, "{4 {2 4} [{1 {1 1} {2 4} 2}] 0}"},
	{"the last order that holds", []string{"0 redirect 1 1 1 2 3 0 0", "0 redirect 2 1 1 2 4 6 0"}, "{4 {2 3} [{1 {1 1} {2 3} 1}] 0}"},
	{"the last order that leads away", []string{"0 redirect 1 1 1 2 3 0 0", "0 redirect 2 1 1 1 1 0 0"}, "{4 {2 3} [{1 {1 1} {2 3} 1}] 0}"},
	{"an order for the place before a later one for all", []string{"0 redirect 1 1 1 2 3 0 0", "0 redirect 2 1 0 2 4 0 0"}, "{4 {2 3} [{1 {1 1} {2 3} 1}] 0}"},
	{"the last order for all places", []string{"0 redirect 1 1 0 2 3 0 0", "0 redirect 2 1 0 2 4 0 0", "0 redirect 3 1 2 2 5 0 0"}, "{4 {2 4} [{1 {1 1} {2 4} 2}] 0}"},
	{"a cancelled order", []string{"0 redirect 1 1 1 2 3 0 0", "0 redirect 2 1 1 2 4 0 0", "0 cancel 2 5"}, "{4 {2 3} [{1 {1 1} {2 3} 1}] 0}"},
	{"an order that is cancelled later", []string{"0 redirect 1 1 1 2 3 0 0", "0 redirect 2 1 1 2 4 0 0", "0 cancel 2 6"}, "{4 {2 4} [{1 {1 1} {2 4} 2}] 0}"},
	{"a circle behind the start", []string{"0 redirect 1 1 1 2 2 0 0", "0 redirect 2 2 2 3 3 0 0", "0 redirect 3 3 3 2 2 0 0"}, "{6 {2 2} [{1 {1 1} {2 2} 1} {1 {2 2} {3 3} 2} {1 {3 3} {2 2} 3}] 1}"},
	{"a circle of an order and an heir", []string{"0 live 1 1 0 0", "0 redirect 1 1 0 2 2 0 0", "0 heir 2 1 0 0", "0 death 2 0"}, "{6 {1 1} [{1 {1 1} {2 2} 1} {2 {2 2} {1 1} 0}] 0}"},
}

func TestNamedRoutes(t *testing.T) {
	for _, c := range routes {
		l := valid(t, append([]string{"0 name 1 0 0 a", "0 name 2 0 0 b", "0 name 3 0 0 c"}, c.lines...)...)
		same(t, c.name, fmt.Sprint(follow(t, l, pair{Person: 1, Place: 1}, 3, 5)), c.want)
	}
}

// No valid list has an heir of oneself, an order without a number, or a home with the number 0.
func TestRoutesOfListsThatAreNotValid(t *testing.T) {
	self := []api.Entry{{Kind: 3, Person: 1}, {Kind: 4, Person: 1, Other: 1}}
	same(t, "an heir of oneself", fmt.Sprint(follow(t, self, pair{Person: 1, Place: 1}, 0, 5)), "{6 {1 0} [{2 {1 1} {1 0} 0} {2 {1 0} {1 0} 0}] 1}")
	noPlace := []api.Entry{{Kind: 2, Person: 2}, {Kind: 5, Person: 1, Other: 2}}
	same(t, "a home with the number 0", fmt.Sprint(follow(t, noPlace, pair{Person: 1, Place: 1}, 0, 5)), "{1 {2 0} [{1 {1 1} {2 0} 0}] 0}")
	restless := []api.Entry{{Kind: 3, Person: 1, Until: 5}, {Kind: 2, Person: 1, Place: 1}}
	same(t, "a death that ends", fmt.Sprint(follow(t, restless, pair{Person: 1, Place: 1}, 0, 4), follow(t, restless, pair{Person: 1, Place: 1}, 0, 5)), "{3 {1 1} [] 0} {1 {1 1} [] 0}")
	early := []api.Entry{{Kind: 6, Order: 4, Until: 5}, {Kind: 5, Order: 4, Person: 1, Other: 1, At: 2}}
	same(t, "a cancellation that ends", fmt.Sprint(follow(t, early, pair{Person: 1, Place: 1}, 0, 4), follow(t, early, pair{Person: 1, Place: 1}, 0, 5)), "{4 {1 1} [] 0} {4 {1 2} [{1 {1 1} {1 2} 4}] 0}")
	odd := []api.Entry{{Kind: 5, Order: -7, Person: 1, Other: -3, At: -4, Name: "A"}}
	same(t, "an order with other numbers", fmt.Sprint(follow(t, odd, pair{Person: 1, Place: 1}, 0, 5)), "{4 {-3 -4} [{1 {1 1} {-3 -4} -7}] 0}")
	x, _ := people.Order(odd, pair{Person: 1, Place: 1}, 5)
	same(t, "the whole entry", x, odd[0])
}

func TestFollowChecksItsArguments(t *testing.T) {
	l := sample(t)
	for _, c := range []struct {
		person, place, sender, day int
		want                       api.Errno
	}{
		{1, 7, 0, 0, api.OK}, {1000000, 1000000, 1000000, 100000, api.OK}, {1, 1, 1, 1, api.OK},
		{0, 7, 0, 5, api.ErrArg}, {-1, 7, 0, 5, api.ErrArg}, {1000001, 7, 0, 5, api.ErrArg},
		{1, 0, 0, 5, api.ErrArg}, {1, -1, 0, 5, api.ErrArg}, {1, 1000001, 0, 5, api.ErrArg},
		{1, 7, -1, 5, api.ErrArg}, {1, 7, 1000001, 5, api.ErrArg}, {1, 7, 0, -1, api.ErrArg}, {1, 7, 0, 100001, api.ErrArg},
		{math.MinInt, 7, 0, 5, api.ErrArg}, {1, math.MaxInt, 0, 5, api.ErrArg}, {1, 7, math.MinInt, 5, api.ErrArg}, {1, 7, 0, math.MaxInt, api.ErrArg},
	} {
		from := pair{Person: c.person, Place: c.place}
		r, e := people.Follow(l, from, c.sender, c.day)
		same(t, fmt.Sprintf("Follow with %v", c), e, c.want)
		same(t, fmt.Sprintf("CheckRoute with %v", c), people.CheckRoute(l, from, c.sender, c.day, r), c.want == api.OK)
		if c.want != api.OK {
			sameRoute(t, fmt.Sprintf("Follow with %v", c), r, api.Route{})
		}
	}
}

// changed returns routes that differ from one in a single value.
func changed(r api.Route) []api.Route {
	other := func() api.Route {
		s := r
		s.Hops = slices.Clone(r.Hops)
		return s
	}
	var list []api.Route
	for field := range 4 {
		s := other()
		switch field {
		case 0:
			s.Kind++
		case 1:
			s.End.Person++
		case 2:
			s.End.Place++
		case 3:
			s.Back++
		}
		list = append(list, s)
	}
	for i := range r.Hops {
		for field := range 7 {
			s := other()
			switch h := &s.Hops[i]; field {
			case 0:
				h.Kind = 3 - h.Kind
			case 1:
				h.From.Person++
			case 2:
				h.From.Place++
			case 3:
				h.To.Person++
			case 4:
				h.To.Place++
			case 5:
				h.Order++
			case 6:
				s.Hops = s.Hops[:i]
			}
			list = append(list, s)
		}
	}
	longer := other()
	longer.Hops = append(longer.Hops, api.Hop{Kind: 1})
	return append(list, longer)
}

func TestCheckRoute(t *testing.T) {
	listsOf(t, 12, 20, func(l []api.Entry, r *rand.Rand) {
		for _, c := range starts(l) {
			sender, day := r.Intn(5), r.Intn(16)
			route := follow(t, l, c, sender, day)
			same(t, "the route", people.CheckRoute(l, c, sender, day, route), true)
			if len(route.Hops) == 0 {
				route.Hops = []api.Hop{}
				same(t, "the route with an empty slice", people.CheckRoute(l, c, sender, day, route), true)
			}
			for _, s := range changed(route) {
				same(t, fmt.Sprintf("CheckRoute of %v, which is %v", s, route), people.CheckRoute(l, c, sender, day, s), false)
			}
			same(t, "the zero route", people.CheckRoute(l, c, sender, day, api.Route{}), false)
		}
	})
}

// P3.4.
func TestSuperseding(t *testing.T) {
	applied, cancelled := 0, 0
	r := rand.New(rand.NewSource(13))
	for range 300 {
		l := randomValid(r, 40)
		x := api.Entry{Day: 99, Kind: 5, Order: 77, Person: 1 + r.Intn(4), Place: 1 + r.Intn(4), Other: 1 + r.Intn(4), At: r.Intn(5), Since: r.Intn(4)}
		with, e := people.Append(l, x)
		same(t, "Append of the order", e, api.OK)
		without, e := people.Append(with, api.Entry{Day: 99, Kind: 6, Order: 77})
		same(t, "Append of the cancellation", e, api.OK)
		c := pair{Person: x.Person, Place: x.Place}
		for day := range 16 {
			was, _ := people.Order(l, c, day)
			is, found := people.Order(with, c, day)
			if appliesTo(with, x, c, day) {
				applied++
				same(t, fmt.Sprintf("Order of %v on the day %d", c, day), fmt.Sprint(is, found), fmt.Sprint(x, true))
			}
			again, _ := people.Order(without, c, day)
			if again != is {
				cancelled++
			}
			same(t, "the order behind the cancellation", again, was)
		}
	}
	if applied < 500 || cancelled < 500 {
		t.Fatalf("applied %d times, cancelled %d times", applied, cancelled)
	}
}

// checkChain tests that hops lead from a pair to the end of a route.
func checkChain(t *testing.T, c pair, r api.Route) {
	t.Helper()
	met := map[pair]bool{}
	for _, hop := range r.Hops {
		same(t, fmt.Sprintf("From in %v", r), hop.From, c)
		same(t, fmt.Sprintf("From again in %v", r), met[hop.From], false)
		met[hop.From] = true
		c = hop.To
	}
	if r.Kind != api.RouteHomeless {
		same(t, fmt.Sprintf("End of %v", r), r.End, c)
	}
	same(t, fmt.Sprintf("a circle is closed in %v", r), met[r.End] && r.Kind != api.RouteHomeless, r.Kind == api.RouteLoop)
	if r.Kind == api.RouteLoop {
		same(t, fmt.Sprintf("From of the hop Back of %v", r), r.Hops[r.Back].From, r.End)
	} else {
		same(t, fmt.Sprintf("Back of %v", r), r.Back, 0)
	}
}

// P3.5 and P3.6.
func TestFollowingEnds(t *testing.T) {
	houses := 0
	listsOf(t, 14, 60, func(l []api.Entry, r *rand.Rand) {
		for day := range 16 {
			targets := map[pair]bool{}
			for _, x := range l {
				for _, to := range append(targetOf(l, x, day), reachedAt(l, x.Other, day)...) {
					targets[to] = true
				}
			}
			for _, c := range starts(l) {
				sender := r.Intn(5)
				route := follow(t, l, c, sender, day)
				checkChain(t, c, route)
				if len(route.Hops) > len(targets)+1 {
					t.Fatalf("%d hops, but only %d targets", len(route.Hops), len(targets))
				}
				if route.Kind == api.RouteHouse {
					houses++
					_, found := people.Order(l, route.End, day)
					same(t, fmt.Sprintf("the house of %v", route), fmt.Sprint(people.Lives(l, route.End, day), people.Dead(l, route.End.Person, day), people.Refuses(l, route.End, sender, day), found), "true false false false")
				}
			}
		}
	})
	if houses < 500 {
		t.Fatalf("only %d houses", houses)
	}
}

// The longest route that a valid list has: its hops are as many as its orders.
func TestLongRoutes(t *testing.T) {
	l := entries(t, "0 name 1 0 0 a", "0 live 1 399 0 0")
	for i := 1; i <= 398; i++ {
		l = append(l, api.Entry{Kind: 5, Order: i, Person: 1, Place: i, Other: 1, At: i + 1})
	}
	i, e := people.Check(l)
	same(t, "Check", fmt.Sprint(i, e), "0 0")
	r := follow(t, l, pair{Person: 1, Place: 1}, 0, 5)
	checkChain(t, pair{Person: 1, Place: 1}, r)
	same(t, "the route", fmt.Sprint(r.Kind, r.End, len(r.Hops)), "1 {1 399} 398")
	l[399].At = 1
	r = follow(t, l, pair{Person: 1, Place: 5}, 0, 5)
	checkChain(t, pair{Person: 1, Place: 5}, r)
	same(t, "the circle", fmt.Sprint(r.Kind, r.End, len(r.Hops), r.Back), "6 {1 5} 398 0")
	loops, e := people.Loops(l, 5)
	same(t, "Loops", fmt.Sprint(len(loops), len(loops[0]), loops[0][:2], e), "1 398 [{1 1} {1 2}] 0")
}
