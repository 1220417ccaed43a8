package reading_test

import (
	"math"
	"math/rand"
	"slices"
	"strings"
	"testing"

	"restante/api"
	"restante/reading"
)

// A17 to A22, P1.6, P1.7, T1.
func TestQuestions(t *testing.T) {
	r := rand.New(rand.NewSource(12))
	differ, inside := 0, 0
	for i := range 3000 {
		a, b := smallAuto(r), smallAuto(r)
		if i%20 == 0 {
			a, b = randomAuto(r, 14, 40, 4, "abc"), randomAuto(r, 14, 40, 4, "abc")
		}
		x, y := accepted(a), accepted(b)
		if n, e := reading.Count(a); n != len(x) || e != api.OK {
			t.Fatalf("Count(%v) = %d, error %d; want %d", a, n, e, len(x))
		}
		list := sorted(x)
		for _, n := range []int{0, 1, 2, 5, len(list), len(list) + 1, api.MaxBest} {
			best, e := reading.Best(a, n)
			if e != api.OK || !slices.Equal(best, list[:min(n, len(list))]) {
				t.Fatalf("Best(%v, %d) = %v, error %d; want %v", a, n, best, e, list)
			}
		}
		wantFirst(t, "Least", list)(reading.Least(a))
		first, is, e := reading.Meet(a, b)
		if e != api.OK {
			t.Fatalf("Meet(%v, %v): error %d", a, b, e)
		}
		wantFirst(t, "Meet", sorted(bothOf(x, y)))(first, is)
		wantFirst(t, "Least of Both", sorted(bothOf(x, y)))(reading.Least(must[api.Auto](t, "Both")(reading.Both(a, b))))
		var only []string
		for s := range withoutOf(x, y) {
			only = append(only, s)
		}
		slices.Sort(only)
		s, all, e := reading.Inside(a, b)
		if e != api.OK || all != (len(only) == 0) || !all && s != only[0] || all && s != "" {
			t.Fatalf("Inside(%v, %v) = %q, %v, error %d; want %q", a, b, s, all, e, only)
		}
		if all {
			inside++
		} else {
			differ++
		}
	}
	if inside < 100 || differ < 100 {
		t.Errorf("%d were inside, %d were not", inside, differ)
	}
}

// wantFirst requires the first one of some readings, or none.
func wantFirst(t *testing.T, name string, list []api.Reading) func(r api.Reading, is bool) {
	return func(r api.Reading, is bool) {
		t.Helper()
		want := api.Reading{}
		if len(list) > 0 {
			want = list[0]
		}
		if is != (len(list) > 0) || r != want {
			t.Fatalf("%s: %v, %v; want %v", name, r, is, want)
		}
	}
}

// A17: costs matter to Same.
func TestSame(t *testing.T) {
	a := of(t, "(a|b:1)(c|:3)")
	for s, want := range map[string]bool{"(b:1|a)(:3|c)": true, "(a|b:1)(c|:4)": false, "(a|b:1)c": false, "(a|b:1|x)(c|:3)": false} {
		if is, e := reading.Same(a, of(t, s)); is != want || e != api.OK {
			t.Errorf("Same with %q: %v, error %d", s, is, e)
		}
	}
	if is, e := reading.Same(api.Auto{States: 3}, api.Auto{States: 1}); !is || e != api.OK {
		t.Errorf("Same of automata that accept nothing: %v, error %d", is, e)
	}
}

// A18: costs do not matter to Inside; a string comes before its continuations.
func TestInside(t *testing.T) {
	for _, row := range []struct {
		a, b, want string
		is         bool
	}{
		{"(a|b:1)", "(a:7|b:9|c)", "", true}, {"", "a", "", false}, {"a", "", "a", false}, {"(|a)", "a", "", false}, {"a(|-)", "b", "a", false},
		{"(a|b)(c|-)", "ac", "a-", false}, {"(a|ab)", "a", "ab", false}, {"(b|aaa)", "(|a)(b|a)", "aaa", false},
	} {
		if s, is, e := reading.Inside(of(t, row.a), of(t, row.b)); s != row.want || is != row.is || e != api.OK {
			t.Errorf("Inside(%q, %q) = %q, %v, error %d", row.a, row.b, s, is, e)
		}
	}
	none := api.Auto{States: 1}
	if s, is, e := reading.Inside(none, none); s != "" || !is || e != api.OK {
		t.Errorf("Inside of nothing in nothing: %q, %v, error %d", s, is, e)
	}
}

// A19: exactly MaxCount strings, and one more.
func TestMostStrings(t *testing.T) {
	// 10 letters in each of 12 places are 10^12 strings.
	many := api.Auto{States: 13, Ends: []api.End{{State: 12}}}
	for q := range 12 {
		for c := byte('0'); c <= '9'; c++ {
			many.Arcs = append(many.Arcs, api.Arc{From: q, To: q + 1, Letter: c})
		}
	}
	if n, e := reading.Count(many); n != api.MaxCount || e != api.OK {
		t.Errorf("Count: %d, error %d", n, e)
	}
	more := copyOf(many)
	more.Ends = []api.End{{State: 0}, {State: 12}}
	if n, e := reading.Count(more); n != 0 || e != api.ErrLimit {
		t.Errorf("Count of one more: %d, error %d", n, e)
	}
	// 38^105 strings are more than any int.
	if n, e := reading.Count(wide(api.MaxArcs)); n != 0 || e != api.ErrLimit {
		t.Errorf("Count of very many: %d, error %d", n, e)
	}
	if n, e := reading.Count(api.Auto{States: 1}); n != 0 || e != api.OK {
		t.Errorf("Count of nothing: %d, error %d", n, e)
	}
}

// A21: the limits of n, and the order of the errors.
func TestBestLimits(t *testing.T) {
	for _, n := range []int{-1, api.MaxBest + 1, math.MinInt, math.MaxInt} {
		for _, a := range []api.Auto{word(t, "a", 0), {States: api.MaxStates + 1}} {
			if l, e := reading.Best(a, n); len(l) != 0 || e != api.ErrArg {
				t.Errorf("Best of %d: %v, error %d", n, l, e)
			}
		}
	}
	if l, e := reading.Best(api.Auto{States: api.MaxStates + 1}, api.MaxBest); len(l) != 0 || e != api.ErrLimit {
		t.Errorf("Best of too many states: %v, error %d", l, e)
	}
	l := must[[]api.Reading](t, "Best")(reading.Best(wide(api.MaxArcs), api.MaxBest))
	if len(l) != api.MaxBest || l[0].Text != strings.Repeat(" ", 105)+" " || l[10].Text[104:] != "- " {
		t.Errorf("Best of very many: %d readings, the 11th %v", len(l), l[10])
	}
	for i := 1; i < len(l); i++ {
		if l[i-1].Text >= l[i].Text {
			t.Fatalf("Best: %v before %v", l[i-1], l[i])
		}
	}
}

// A20, A22: the first one of several strings with the least cost, in byte order, where a string comes before its continuations.
func TestFirstOfEqualCosts(t *testing.T) {
	for s, want := range map[string]string{
		"(b|ab)": "ab", "(a|ab)": "a", "(a|)(b|)": "", "(b|a)(-|a)": "a-", "(a:1|b)(a|b:1)": "ba", "(c:1|ab)(:1|d:2)": "ab", "(ba|b|ab:1)": "b",
	} {
		a := of(t, s)
		if r, is := reading.Least(a); !is || r.Text != want {
			t.Errorf("Least of %q: %v, %v", s, r, is)
		}
		if r, is, e := reading.Meet(a, a); !is || e != api.OK || r.Text != want {
			t.Errorf("Meet of %q: %v, %v, error %d", s, r, is, e)
		}
	}
}

// guesser accepts strings of 22 letters a and b of which there are very many profiles.
func guesser() api.Auto {
	a := api.Auto{States: 24, Ends: []api.End{{State: 23, Cost: 1}}}
	for i := range 12 {
		a.Arcs = append(a.Arcs, api.Arc{From: i, To: i + 1, Letter: 'a'}, api.Arc{From: i, To: i + 1, Letter: 'b'}, api.Arc{From: i, To: 13, Letter: 'a', Cost: 1})
	}
	for i := 13; i < 23; i++ {
		a.Arcs = append(a.Arcs, api.Arc{From: i, To: i + 1, Letter: 'a', Cost: i % 2}, api.Arc{From: i, To: i + 1, Letter: 'b'})
	}
	return a
}

// A20, A22, A7: there is no limit of profiles.
func TestNoLimitOfProfiles(t *testing.T) {
	a := guesser()
	if _, e := reading.Normal(a); e != api.ErrLimit {
		t.Errorf("Normal: error %d", e)
	}
	// The later the arc of cost 1 is, the more letters are free to be a.
	want := api.Reading{Text: strings.Repeat("a", 12) + strings.Repeat("ba", 5), Cost: 2}
	if r, is := reading.Least(a); !is || r != want {
		t.Errorf("Least: %v, %v; want %v", r, is, want)
	}
	want.Cost *= 2
	if r, is, e := reading.Meet(a, a); !is || e != api.OK || r != want {
		t.Errorf("Meet: %v, %v, error %d; want %v", r, is, e, want)
	}
	want.Cost /= 2
	if cost, is := reading.Cost(a, want.Text); !is || cost != want.Cost {
		t.Errorf("Cost: %d, %v", cost, is)
	}
	if r, is, e := reading.Meet(a, word(t, "b", 0)); is || e != api.OK || r != (api.Reading{}) {
		t.Errorf("Meet of different lengths: %v, %v, error %d", r, is, e)
	}
}

// A22: the greatest costs.
func TestGreatestCosts(t *testing.T) {
	a := chain(api.MaxStates)
	for i := range a.Arcs {
		a.Arcs[i].Cost = api.MaxCost
	}
	a.Ends[0].Cost = api.MaxCost
	want := api.Reading{Text: strings.Repeat("a", api.MaxStates-1), Cost: api.MaxStates * api.MaxCost}
	if r, is := reading.Least(a); !is || r != want {
		t.Errorf("Least: %v, %v", r, is)
	}
	want.Cost *= 2
	if r, is, e := reading.Meet(a, a); !is || e != api.OK || r != want {
		t.Errorf("Meet: %v, %v, error %d", r, is, e)
	}
	if _, e := reading.Normal(a); e != api.ErrLimit {
		t.Errorf("Normal: error %d", e)
	}
	if p := must[api.Auto](t, "Plain")(reading.Plain(a)); !same(p, chain(api.MaxStates)) {
		t.Errorf("Plain: %v", p)
	}
}
