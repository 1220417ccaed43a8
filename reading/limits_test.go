package reading_test

import (
	"fmt"
	"math/rand"
	"strings"
	"testing"

	"restante/api"
	"restante/reading"
)

// fan returns an automaton that accepts each of the first n letters, at costs that grow by step, followed by length - 1 times t.
func fan(n, length, step int) api.Auto {
	a := api.Auto{States: length + 1, Ends: []api.End{{State: length}}}
	for i := range n {
		a.Arcs = append(a.Arcs, api.Arc{From: 0, To: 1, Letter: letterBytes[i], Cost: i * step})
	}
	for q := 1; q < length; q++ {
		a.Arcs = append(a.Arcs, api.Arc{From: q, To: q + 1, Letter: 't'})
	}
	return a
}

// twice returns an automaton with two ways of length letters for each string of fan; their costs differ by what the first letter says. So it has 1 + n*length profiles.
func twice(n, length int) api.Auto {
	a := api.Auto{States: 2*length + 1, Ends: []api.End{{State: 2*length - 1}, {State: 2 * length}}}
	for to := 1; to <= 2; to++ {
		for i := range n {
			a.Arcs = append(a.Arcs, api.Arc{From: 0, To: to, Letter: letterBytes[i], Cost: (to - 1) * i})
		}
	}
	for q := 1; q <= 2*length-2; q++ {
		a.Arcs = append(a.Arcs, api.Arc{From: q, To: q + 2, Letter: 't'})
	}
	return a
}

// joined returns the automaton of its parts, one behind the other.
func joined(t *testing.T, parts ...api.Auto) api.Auto {
	t.Helper()
	a := parts[0]
	for _, b := range parts[1:] {
		a = must[api.Auto](t, "Join")(reading.Join(a, b))
	}
	return a
}

// oneOf returns an automaton that accepts each of some letters, which are sorted.
func oneOf(letters string) api.Auto {
	a := api.Auto{States: 2, Ends: []api.End{{State: 1}}}
	for i := range len(letters) {
		a.Arcs = append(a.Arcs, api.Arc{From: 0, To: 1, Letter: letters[i]})
	}
	return a
}

// wantLimit requires that an operation has this many profiles, and that it returns ErrLimit exactly if these are more than MaxStates.
func wantLimit(t *testing.T, name string, profiles, want int, a api.Auto, e api.Errno) {
	t.Helper()
	if profiles != want {
		t.Fatalf("%s: %d profiles; the test is meant to have %d", name, profiles, want)
	}
	if profiles > api.MaxStates && (e != api.ErrLimit || !isZero(a)) {
		t.Errorf("%s: %d profiles: error %d, %d states", name, profiles, e, a.States)
	}
	if profiles <= api.MaxStates && e != api.OK {
		t.Errorf("%s: %d profiles: error %d", name, profiles, e)
	}
}

// A9, A11, A12, A15, A16: 400 and 401 profiles.
func TestMostProfiles(t *testing.T) {
	for _, row := range []struct{ n, length int }{{19, 21}, {20, 20}, {21, 19}} {
		want := 1 + row.n*row.length
		a := twice(row.n, row.length)
		n, e := reading.Normal(a)
		wantLimit(t, "Normal", normalLeading(a).profiles(), want, n, e)

		cheap, dear := normal(t, fan(row.n, row.length, 0)), normal(t, fan(row.n, row.length, 1))
		u, e := reading.Union(cheap, dear)
		wantLimit(t, "Union", unionLeading(cheap, dear).profiles(), want, u, e)

		most := row.n - 1
		w, e := reading.Within(dear, most)
		wantLimit(t, "Within", withinLeading(dear, most).profiles(), want, w, e)
		w, e = reading.Within(dear, most-2) // the pairs of two letters are not live
		wantLimit(t, "Within less", withinLeading(dear, most-2).profiles(), want-2*row.length, w, e)

		// Before the end of the first part the first letter may belong to either; behind it there is one more chain.
		first := must[api.Auto](t, "Union")(reading.Union(word(t, "", 0), normal(t, fan(row.n-1, row.length, 1))))
		second := normal(t, fan(row.n-1, row.length, 0))
		j, e := reading.Join(first, second)
		wantLimit(t, "Join", joinLeading(first, second).profiles(), want, j, e)
	}
}

// A11: the limit of profiles is that of the automaton without its costs.
func TestMostProfilesOfPlain(t *testing.T) {
	a := twice(20, 20)
	p, e := reading.Plain(a)
	if e != api.OK {
		t.Fatalf("Plain: error %d", e)
	}
	wantNormal(t, "Plain", p, plainOf(accepted(a)))
}

// A13, A14: 400 and 401 profiles, which are pairs of states.
func TestMostPairs(t *testing.T) {
	ends := func(letters string) api.Auto { return normal(t, oneOf(letters)) }
	run := func(n int) api.Auto { return normal(t, chain(n+1)) }
	group := func(first, last string, n int) api.Auto { return joined(t, ends(first), run(n), ends(last)) }
	union := func(a, b api.Auto) api.Auto { return must[api.Auto](t, "Union")(reading.Union(a, b)) }
	for _, before := range []int{2, 3, 4} {
		x := union(group("ab", "xz", 98), group("cd", "yz", 98))
		y := union(group("ac", "xz", 98), group("bd", "yz", 98))
		x, y = joined(t, run(before), x), joined(t, run(before), y)
		b, e := reading.Both(x, y)
		wantLimit(t, "Both", bothLeading(x, y).profiles(), 398+before, b, e)

		x = joined(t, run(before), group("abcde", "xy", 131))
		y = joined(t, run(before), union(group("ab", "x", 131), group("cd", "y", 131)))
		w, e := reading.Without(x, y)
		wantLimit(t, "Without", withoutLeading(x, y).profiles(), 398+before, w, e)
	}
}

// A10: 400 and 401 profiles.
func TestMostProfilesOfCells(t *testing.T) {
	for s, profiles := range map[string]int{
		"(bb:3|:6|b:8)(aa:4|bb:2)(aa:1|)(ba:6|:8|a:8)(bbb:4|a:3)(:2|b:8|bba:9|bb:1)(aa:5|b:9|bb:2)(ba|bba:8|:8)(bb|abb:8)(baa:3|abb:5)":   392,
		"(aaa|b:5|bba:9|aa:7)(a:5|:2|aba:8|abb)(ba|:6|bba:6)(bb:4|aa:2|:1|b:7)(|b:3|ab:9|bbb:4)(bbb:4|b|aa:4)(baa:1|aab:7|bbb:2|:2)(b:4)": 387,
		"(abb:7|:4)(b:5|:2|ba:6|ab)(aba:5|a:2|bb:8)(b:8|aba:4|ab|bbb:5)(b:7|:7|aa:1)(ab:5|b:4)(aaa:9|:1|ab:6)(:5|abb:1|ab:7)(aba|aab:6)":  386,
		"(aa:7|)(aab:9|ab:8|:3)(:1|b:5|baa:9)(bb:8|:5|a:8)(bba:2||aa:7)(:4)b(bab:9|a:4|b:3|ab:5)(:7|bb:7|bab|aa:7)(bbb:9|aa:2|bba:7)":     386,
		"(|ab:9|b:1)(aba:9|ab:7|ba:7|b)(ba:2|bb:3|b:8|a)(:3|bb:1|aab:2)(:7|a|aa:6)(b:4|:8|bbb:8)(bb:9|:7)(a:5)(:3|aba:3|aa:2|bba:9)":      381,
	} {
		for more := 399; more <= 402; more++ { // each letter before the others has a profile of its own
			cells := parse(t, strings.Repeat("0", more-profiles)+s)
			a, e := reading.Of(cells)
			wantLimit(t, fmt.Sprintf("Of %q", s), cellsProfiles(cells), more, a, e)
			if e == api.OK {
				wantNormal(t, "Of "+s, a, spelled(cells))
			}
		}
	}
}

// A9, A12 to A16: the errors of automata with about as many profiles as there may be are those of the definition.
func TestAboutMostProfiles(t *testing.T) {
	r := rand.New(rand.NewSource(13))
	many, few := map[string]int{}, map[string]int{}
	agree := func(name string, profiles int, a api.Auto, e api.Errno) {
		t.Helper()
		wantLimit(t, name, profiles, profiles, a, e)
		if profiles > api.MaxStates {
			many[name]++
		} else if profiles > api.MaxStates/4 {
			few[name]++
		}
	}
	for range 40 {
		a := layered(r, 7, 4, 5, 9)
		n, e := reading.Normal(a)
		agree("Normal", normalLeading(a).profiles(), n, e)
		x, y := someNormal(t, r, 7, 3, 4, 9), someNormal(t, r, 7, 3, 4, 9)
		n, e = reading.Union(x, y)
		agree("Union", unionLeading(x, y).profiles(), n, e)
		most := r.Intn(40)
		n, e = reading.Within(x, most)
		agree("Within", withinLeading(x, most).profiles(), n, e)
		x, y = someNormal(t, r, 4, 3, 4, 9), someNormal(t, r, 4, 3, 4, 9)
		n, e = reading.Join(x, y)
		agree("Join", joinLeading(x, y).profiles(), n, e)
		x, y = someNormal(t, r, 8, 3, 5, 3), someNormal(t, r, 8, 3, 5, 3)
		n, e = reading.Both(x, y)
		agree("Both", bothLeading(x, y).profiles(), n, e)
		n, e = reading.Without(x, y)
		agree("Without", withoutLeading(x, y).profiles(), n, e)
	}
	for range 500 {
		cells := doubtfulCells(r)
		a, e := reading.Of(cells)
		agree("Of", cellsProfiles(cells), a, e)
	}
	for _, name := range []string{"Normal", "Of", "Union", "Join", "Within"} {
		if many[name] == 0 || few[name] == 0 {
			t.Errorf("%s: %d times more than 400 profiles, %d times not many less", name, many[name], few[name])
		}
	}
}

// someNormal returns the normal form of a layered automaton that has one.
func someNormal(t *testing.T, r *rand.Rand, layers, width, arcs, costs int) api.Auto {
	t.Helper()
	for {
		a, e := reading.Normal(layered(r, layers, width, arcs, costs))
		if e == api.OK {
			return a
		}
	}
}

// doubtfulCells returns cells with many ways to read one string.
func doubtfulCells(r *rand.Rand) []api.Cell {
	var cells []api.Cell
	for range 6 + r.Intn(6) {
		var cell api.Cell
		seen := map[string]bool{}
		for range 2 + r.Intn(4) {
			s := ""
			for range r.Intn(4) {
				s += string("ab"[r.Intn(2)])
			}
			if !seen[s] {
				seen[s] = true
				cell.Alts = append(cell.Alts, api.Alt{Letters: s, Cost: r.Intn(10)})
			}
		}
		cells = append(cells, cell)
	}
	return cells
}

// layered returns an automaton with width states in each of some layers, in which each state has arcs of the letters a and b (and c) to states of the next one.
func layered(r *rand.Rand, layers, width, arcs, costs int) api.Auto {
	a := api.Auto{States: 1 + layers*width}
	for q := range a.States - width {
		begin := 1 + (q+width-1)/width*width
		seen := map[api.Arc]bool{}
		for range arcs + r.Intn(3) {
			arc := api.Arc{From: q, To: begin + r.Intn(width), Letter: "abc"[r.Intn(3)]}
			if !seen[arc] {
				seen[arc] = true
				arc.Cost = r.Intn(costs)
				a.Arcs = append(a.Arcs, arc)
			}
		}
	}
	sortArcs(a.Arcs)
	for q := range a.States {
		if q > a.States-1-width || r.Intn(4) == 0 {
			a.Ends = append(a.Ends, api.End{State: q, Cost: r.Intn(3)})
		}
	}
	return a
}

// A9 to A16: a normal form whose costs do not fit.
func TestGreatCosts(t *testing.T) {
	// two returns the normal form of a string of two letters whose cost is divided among its arcs.
	two := func(first, second, end int) api.Auto {
		return api.Auto{States: 3, Arcs: []api.Arc{{From: 0, To: 1, Letter: 'a', Cost: first}, {From: 1, To: 2, Letter: 'b', Cost: second}}, Ends: []api.End{{State: 2, Cost: end}}}
	}
	max := api.MaxCost
	half := word(t, "a", max/2)
	// steep accepts aa with a great cost, though none of its own costs is great.
	steep := must[api.Auto](t, "Normal")(reading.Normal(api.Auto{States: 3,
		Arcs: []api.Arc{{From: 0, To: 1, Letter: 'a', Cost: 1}, {From: 1, To: 2, Letter: 'a', Cost: max}, {From: 1, To: 2, Letter: 'b'}},
		Ends: []api.End{{State: 2}}}))
	slope := func(cost int) api.Auto { // accepts aaa, at 2*cost; aab is free in part
		return api.Auto{States: 4, Arcs: []api.Arc{{From: 0, To: 1, Letter: 'a', Cost: cost}, {From: 1, To: 2, Letter: 'a', Cost: cost}, {From: 2, To: 3, Letter: 'a'}},
			Ends: []api.End{{State: 0}, {State: 1}, {State: 3}}}
	}
	fits := func(name string, want api.Errno) func(a api.Auto, e api.Errno) {
		return func(a api.Auto, e api.Errno) {
			t.Helper()
			if e != want || e != api.OK && !isZero(a) {
				t.Errorf("%s: %v, error %d; want %d", name, a, e, want)
			}
		}
	}
	fits("Normal", api.OK)(reading.Normal(two(max-2, 1, 1)))
	fits("Normal beyond", api.ErrLimit)(reading.Normal(two(max-1, 1, 1)))
	fits("Normal far beyond", api.ErrLimit)(reading.Normal(two(max, max, max)))
	fits("Both", api.OK)(reading.Both(half, half))
	fits("Both beyond", api.ErrLimit)(reading.Both(half, word(t, "a", max/2+1)))
	fits("Join", api.OK)(reading.Join(half, half))
	fits("Join beyond", api.ErrLimit)(reading.Join(half, word(t, "b", max/2+1)))
	fits("Without", api.OK)(reading.Without(steep, word(t, "aa", 0)))
	fits("Without beyond", api.ErrLimit)(reading.Without(steep, word(t, "ab", 0)))
	fits("Within", api.OK)(reading.Within(steep, max))
	fits("Union", api.OK)(reading.Union(slope(max/2), word(t, "aaaa", 0)))
	fits("Union beyond", api.ErrLimit)(reading.Union(slope(max/2+1), word(t, "aaaa", 0)))
	for name, call := range callsOfOne() {
		if zero, e := call(two(max, 1, 0)); name != "Plain" && (!zero || e != api.ErrLimit) {
			t.Errorf("%s: zero %v, error %d", name, zero, e)
		}
	}
}

// A9, A12: a normal form that has too many arcs, though there are few profiles.
func TestManyArcs(t *testing.T) {
	full := wide(api.MaxArcs)
	n := normal(t, full)
	if !same(n, full) || len(n.Arcs) != api.MaxArcs {
		t.Errorf("Normal of 4000 arcs: %d states, %d arcs", n.States, len(n.Arcs))
	}
	// The last state of full has no arcs yet; behind one of its arcs one more begins.
	if u, e := reading.Union(full, word(t, strings.Repeat(" ", 96), 0)); e != api.ErrLimit || !isZero(u) {
		t.Errorf("Union: error %d, %d states, %d arcs", e, u.States, len(u.Arcs))
	}
	less := wide(api.MaxArcs - 38)
	if j, e := reading.Join(of(t, "(0|1|2|3|4|5|6|7)"), less); e != api.OK || len(j.Arcs) != api.MaxArcs-30 {
		t.Errorf("Join: error %d, %d arcs", e, len(j.Arcs))
	}
	if j, e := reading.Join(wide(38), less); e != api.OK || len(j.Arcs) != api.MaxArcs {
		t.Errorf("Join to 4000 arcs: error %d, %d arcs", e, len(j.Arcs))
	}
	if j, e := reading.Join(wide(39), less); e != api.ErrLimit || !isZero(j) {
		t.Errorf("Join to 4001 arcs: error %d, %d arcs", e, len(j.Arcs))
	}
}

// A10: a normal form that has too many arcs, though there are few profiles.
func TestManyArcsOfCells(t *testing.T) {
	// Each cell has seven letters, which grow cheaper from cell to cell, or is skipped.
	skips := func(letters int) []api.Cell {
		var cells []api.Cell
		for i := range letters {
			k := i / 7
			if i%7 == 0 {
				cells = append(cells, cell(api.Alt{}))
			}
			at := (5*k + i%7) % len(letterBytes)
			cells[k].Alts = append(cells[k].Alts, api.Alt{Letters: letterBytes[at : at+1], Cost: 200 - 10*k + i%7})
		}
		return cells
	}
	if a, e := reading.Of(skips(77)); e != api.OK || len(a.Arcs) != 3798 {
		t.Errorf("Of 77 letters: %d arcs, error %d", len(a.Arcs), e)
	}
	if n := cellsProfiles(skips(78)); n > api.MaxStates {
		t.Fatalf("78 letters have %d profiles", n)
	}
	if a, e := reading.Of(skips(78)); e != api.ErrLimit || !isZero(a) {
		t.Errorf("Of 78 letters: %d arcs, error %d", len(a.Arcs), e)
	}
}

// A6, A9: 400 states.
func TestManyStates(t *testing.T) {
	a := chain(api.MaxStates)
	if !same(normal(t, a), a) {
		t.Error("Normal of 400 states")
	}
	if j, e := reading.Join(chain(200), chain(201)); e != api.OK || !same(j, a) {
		t.Errorf("Join to 400 states: %d states, error %d", j.States, e)
	}
	if j, e := reading.Join(chain(201), chain(201)); e != api.ErrLimit || !isZero(j) {
		t.Errorf("Join to 401 states: %d states, error %d", j.States, e)
	}
}

// A12 to A18: the errors of the first argument come before those of the second one, also those of Normal.
func TestOrderOfErrors(t *testing.T) {
	guess, bad := guesser(), api.Auto{States: 2, Ends: []api.End{{State: 2}}}
	for name, call := range callsOfTwo() {
		if name == "Meet" {
			continue
		}
		if _, e := call(guess, bad); e != api.ErrLimit {
			t.Errorf("%s of too many profiles and no automaton: error %d", name, e)
		}
		if _, e := call(bad, guess); e != api.ErrArg {
			t.Errorf("%s of no automaton and too many profiles: error %d", name, e)
		}
		if zero, e := call(word(t, "a", 0), guess); !zero || e != api.ErrLimit {
			t.Errorf("%s of a word and too many profiles: zero %v, error %d", name, zero, e)
		}
	}
	if _, _, e := reading.Meet(guess, bad); e != api.ErrArg {
		t.Errorf("Meet of too many profiles and no automaton: error %d", e)
	}
	for name, call := range callsOfOne() {
		if zero, e := call(guess); !zero || e != api.ErrLimit {
			t.Errorf("%s of too many profiles: zero %v, error %d", name, zero, e)
		}
	}
}
