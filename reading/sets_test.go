package reading_test

import (
	"math"
	"math/rand"
	"testing"

	"restante/api"
	"restante/reading"
)

// A12 to A15, T1.
func TestOperations(t *testing.T) {
	r := rand.New(rand.NewSource(9))
	for i := range 2000 {
		a, b := smallAuto(r), smallAuto(r)
		if i%40 == 0 {
			a, b = randomAuto(r, 12, 30, 4, "abc"), randomAuto(r, 12, 30, 4, "abc")
		}
		x, y := accepted(a), accepted(b)
		wantNormal(t, "Union", must[api.Auto](t, "Union")(reading.Union(a, b)), unionOf(x, y))
		wantNormal(t, "Both", must[api.Auto](t, "Both")(reading.Both(a, b)), bothOf(x, y))
		wantNormal(t, "Without", must[api.Auto](t, "Without")(reading.Without(a, b)), withoutOf(x, y))
		if len(x)*len(y) < 400 {
			wantNormal(t, "Join", must[api.Auto](t, "Join")(reading.Join(a, b)), joinOf(x, y))
		}
	}
}

// A12 to A15: the empty automaton, and the automaton of the empty string.
func TestOperationsOfLittle(t *testing.T) {
	none, blank, a := api.Auto{States: 3}, word(t, "", 2), of(t, "(a|b:1)(c|:3)")
	x := accepted(a)
	e := language{}
	for _, row := range []struct {
		name string
		call func(a, b api.Auto) (api.Auto, api.Errno)
		a, b api.Auto
		want language
	}{
		{"Union", reading.Union, none, none, e}, {"Union", reading.Union, none, a, x}, {"Union", reading.Union, a, none, x},
		{"Union", reading.Union, blank, word(t, "", 1), language{"": 1}},
		{"Both", reading.Both, none, none, e}, {"Both", reading.Both, none, a, e}, {"Both", reading.Both, a, none, e},
		{"Both", reading.Both, blank, blank, language{"": 4}}, {"Both", reading.Both, blank, a, e},
		{"Without", reading.Without, none, none, e}, {"Without", reading.Without, none, a, e}, {"Without", reading.Without, a, none, x},
		{"Without", reading.Without, a, a, e}, {"Without", reading.Without, blank, a, language{"": 2}}, {"Without", reading.Without, blank, blank, e},
		{"Join", reading.Join, none, none, e}, {"Join", reading.Join, none, a, e}, {"Join", reading.Join, a, none, e},
		{"Join", reading.Join, blank, a, language{"ac": 2, "bc": 3, "a": 5, "b": 6}}, {"Join", reading.Join, a, blank, language{"ac": 2, "bc": 3, "a": 5, "b": 6}},
		{"Join", reading.Join, blank, blank, language{"": 4}},
	} {
		wantNormal(t, row.name, must[api.Auto](t, row.name)(row.call(row.a, row.b)), row.want)
	}
}

// A16, P1.8.
func TestWithin(t *testing.T) {
	r := rand.New(rand.NewSource(10))
	for range 1000 {
		a := smallAuto(r)
		l := accepted(a)
		for _, most := range []int{math.MinInt, math.MinInt + 1, -1, 0, 1, 2, 3, 5, 8, 100, math.MaxInt - 1, math.MaxInt} {
			w := must[api.Auto](t, "Within")(reading.Within(a, most))
			wantNormal(t, "Within", w, withinOf(l, most))
			best := must[[]api.Reading](t, "Best")(reading.Best(a, api.MaxBest))
			for _, b := range best {
				if _, is := reading.Cost(w, b.Text); is != (b.Cost <= most) {
					t.Fatalf("Within(%v, %d) accepts %v: %v", a, most, b, is)
				}
			}
		}
	}
}

// P1.5.
func TestAlgebra(t *testing.T) {
	r := rand.New(rand.NewSource(11))
	op := func(f func(a, b api.Auto) (api.Auto, api.Errno)) func(a, b api.Auto) api.Auto {
		return func(a, b api.Auto) api.Auto { t.Helper(); return must[api.Auto](t, "an operation")(f(a, b)) }
	}
	union, both, without, join := op(reading.Union), op(reading.Both), op(reading.Without), op(reading.Join)
	plain := func(a api.Auto) api.Auto { return must[api.Auto](t, "Plain")(reading.Plain(a)) }
	for range 1000 {
		a, b, c := randomAuto(r, 5, 6, 4, "ab"), randomAuto(r, 5, 6, 4, "ab"), randomAuto(r, 5, 6, 4, "ab")
		for name, pair := range map[string][2]api.Auto{
			"Union is commutative":     {union(a, b), union(b, a)},
			"Both is commutative":      {both(a, b), both(b, a)},
			"Union is associative":     {union(union(a, b), c), union(a, union(b, c))},
			"Union is idempotent":      {union(a, a), normal(t, a)},
			"Plain of Both":            {plain(both(a, b)), both(plain(a), plain(b))},
			"Without and Both":         {union(without(a, b), both(a, plain(b))), normal(t, a)},
			"Join over Union, at left": {join(union(a, b), c), union(join(a, c), join(b, c))},
			"Join over Union":          {join(a, union(b, c)), union(join(a, b), join(a, c))},
		} {
			if !same(pair[0], pair[1]) {
				t.Fatalf("%s: %v, %v, %v: %v and %v", name, a, b, c, pair[0], pair[1])
			}
		}
	}
}
