package people_test

import (
	"fmt"
	"math"
	"math/rand"
	"slices"
	"testing"

	"restante/api"
	"restante/people"
)

func TestLoopsAgainstTheOracle(t *testing.T) {
	lengths := map[int]int{}
	several := 0
	listsOf(t, 15, 150, func(l []api.Entry, r *rand.Rand) {
		for day := range 16 {
			loops, e := people.Loops(l, day)
			want := circlesOf(l, day)
			same(t, fmt.Sprintf("Loops on the day %d", day), fmt.Sprint(loops, e), fmt.Sprint(want, api.OK))
			for _, circle := range want {
				lengths[len(circle)]++
			}
			if len(want) > 1 {
				several++
			}
		}
	})
	if lengths[1] < 10 || lengths[2] < 100 || lengths[3] < 50 || lengths[4] < 10 || several < 50 {
		t.Fatalf("circles of the lengths %v; %d times several ones", lengths, several)
	}
}

func TestNamedLoops(t *testing.T) {
	for _, c := range []struct {
		name  string
		lines []string
		want  string
	}{
		{"none", nil, "[]"},
		{"a chain", []string{"0 redirect 1 1 1 1 2 0 0", "0 redirect 2 1 2 1 3 0 0"}, "[]"},
		{"an order to the pair itself", []string{"0 redirect 1 1 1 1 1 0 0"}, "[]"},
		{"a circle that is entered from outside", []string{"0 redirect 1 1 1 1 2 0 0", "0 redirect 2 1 2 1 3 0 0", "0 redirect 3 1 3 1 2 0 0"}, "[[{1 2} {1 3}]]"},
		{"a circle from its least pair on", []string{"0 redirect 1 3 1 2 9 0 0", "0 redirect 2 2 9 1 5 0 0", "0 redirect 3 1 5 3 1 0 0"}, "[[{1 5} {3 1} {2 9}]]"},
		{"circles by their first pairs", []string{"0 redirect 1 2 1 2 2 0 0", "0 redirect 2 2 2 2 1 0 0", "0 redirect 3 1 7 3 1 0 0", "0 redirect 4 3 1 1 7 0 0", "0 redirect 5 1 5 1 6 0 0", "0 redirect 6 1 6 1 5 0 0"}, "[[{1 5} {1 6}] [{1 7} {3 1}] [{2 1} {2 2}]]"},
		{"heirs of each other, at no place", []string{"0 heir 1 2 0 0", "0 heir 2 1 0 0", "0 death 1 5", "0 death 2 5"}, "[[{1 0} {2 0}]]"},
		{"a circle with a refusal", []string{"0 redirect 1 1 1 1 2 0 0", "0 redirect 2 1 2 1 1 0 0", "0 refuse 1 0 0 0 0"}, "[[{1 1} {1 2}]]"},
		{"a circle that an order for all places closes", []string{"0 live 1 1 0 0", "0 redirect 1 1 0 1 0 0 0", "0 redirect 2 1 1 1 2 0 0"}, "[[{1 1} {1 2}]]"},
		{"a cancelled circle", []string{"0 redirect 1 1 1 1 2 0 0", "0 redirect 2 1 2 1 1 0 0", "0 cancel 2 0"}, "[]"},
		{"a circle of an order and an heir", []string{"0 live 1 1 0 0", "0 redirect 1 1 0 2 2 0 0", "0 heir 2 1 0 0", "0 death 2 0"}, "[[{1 1} {2 2}]]"},
		{"a circle with a homeless person", []string{"0 redirect 1 1 0 2 0 0 0", "0 redirect 2 2 0 1 0 0 0"}, "[]"},
	} {
		l := valid(t, append([]string{"0 name 1 0 0 a", "0 name 2 0 0 b", "0 name 3 0 0 c"}, c.lines...)...)
		loops, e := people.Loops(l, 5)
		same(t, c.name, fmt.Sprint(loops, e), c.want+" 0")
	}
	loops, e := people.Loops([]api.Entry{{Kind: 3, Person: 1}, {Kind: 4, Person: 1, Other: 1}}, 5)
	same(t, "an heir of oneself", fmt.Sprint(loops, e), "[[{1 0}]] 0")
}

func TestLoopsChecksTheDay(t *testing.T) {
	l := sample(t, "80 redirect 6 1 9 1 7 80 0", "80 redirect 7 1 7 1 9 80 0")
	for day, want := range map[int]string{-1: "[] 1", 100001: "[] 1", math.MinInt: "[] 1", math.MaxInt: "[] 1", 0: "[] 0", 79: "[] 0", 80: "[[{1 7} {1 9}]] 0", 100000: "[[{1 7} {1 9}]] 0"} {
		loops, e := people.Loops(l, day)
		same(t, fmt.Sprintf("Loops on the day %d", day), fmt.Sprint(loops, e), want)
	}
}

// P3.7.
func TestLoopsAndRoutes(t *testing.T) {
	ended, followed := 0, 0
	listsOf(t, 16, 100, func(l []api.Entry, r *rand.Rand) {
		willing := only(l, func(x api.Entry) bool { return x.Kind != api.EntryRefuse })
		for day := range 16 {
			loops, _ := people.Loops(l, day)
			for _, c := range starts(l) {
				route := follow(t, l, c, r.Intn(5), day)
				if route.Kind == api.RouteLoop {
					ended++
					same(t, fmt.Sprintf("the circle of %v is in %v", route, loops), slices.ContainsFunc(loops, func(circle []pair) bool { return isCircleOf(circle, route) }), true)
				}
			}
			for _, circle := range loops {
				for _, c := range circle {
					if c.Person > 0 && c.Place > 0 {
						followed++
						route := follow(t, willing, c, r.Intn(5), day)
						same(t, fmt.Sprintf("the circle %v is that of %v", circle, route), route.Kind == api.RouteLoop && isCircleOf(circle, route), true)
					}
				}
			}
		}
	})
	if ended < 500 || followed < 500 {
		t.Fatalf("%d routes ended in circles, %d were followed from there", ended, followed)
	}
}

// isCircleOf reports whether a circle is that of the hops of a route from Back on, wherever it begins.
func isCircleOf(circle []pair, r api.Route) bool {
	var pairs []pair
	for _, hop := range r.Hops[r.Back:] {
		pairs = append(pairs, hop.From)
	}
	i := slices.Index(pairs, circle[0])
	return i >= 0 && slices.Equal(circle, slices.Concat(pairs[i:], pairs[:i]))
}
