package reading_test

import (
	"reflect"
	"slices"
	"testing"

	"restante/api"
	"restante/reading"
)

// The examples at the end of the chapter.
func TestExamples(t *testing.T) {
	cells := parse(t, "c(a|e:2)(rn|m:1|:9)")
	if !reflect.DeepEqual(cells, []api.Cell{cell(api.Alt{Letters: "c"}), cell(api.Alt{Letters: "a"}, api.Alt{Letters: "e", Cost: 2}),
		cell(api.Alt{Letters: "rn"}, api.Alt{Letters: "m", Cost: 1}, api.Alt{Cost: 9})}) {
		t.Errorf("Parse: %v", cells)
	}
	a := must[api.Auto](t, "Of")(reading.Of(cells))
	best := must[[]api.Reading](t, "Best")(reading.Best(a, 10))
	if !slices.Equal(best, []api.Reading{{Text: "carn"}, {Text: "cam", Cost: 1}, {Text: "cern", Cost: 2}, {Text: "cem", Cost: 3}, {Text: "ca", Cost: 9}, {Text: "ce", Cost: 11}}) {
		t.Errorf("Best: %v", best)
	}
	if cost, is := reading.Cost(a, "cem"); cost != 3 || !is {
		t.Errorf("Cost: %d, %v", cost, is)
	}
	union := must[api.Auto](t, "Union")(reading.Union(word(t, "a", 3), word(t, "ab", 1)))
	both := must[api.Auto](t, "Both")(reading.Both(union, word(t, "a", 4)))
	arc := func(from, to int, letter byte, cost int) api.Arc {
		return api.Arc{From: from, To: to, Letter: letter, Cost: cost}
	}
	for _, row := range []struct {
		name      string
		got, want api.Auto
	}{
		{"Of the empty list", must[api.Auto](t, "Of")(reading.Of(nil)), api.Auto{States: 1, Ends: []api.End{{}}}},
		{"Of two cells", of(t, "(a|)(a|)"), api.Auto{States: 3, Arcs: []api.Arc{arc(0, 1, 'a', 0), arc(1, 2, 'a', 0)}, Ends: []api.End{{State: 0}, {State: 1}, {State: 2}}}},
		{"Word", word(t, "ab", 5), api.Auto{States: 3, Arcs: []api.Arc{arc(0, 1, 'a', 5), arc(1, 2, 'b', 0)}, Ends: []api.End{{State: 2}}}},
		{"Union", union, api.Auto{States: 3, Arcs: []api.Arc{arc(0, 1, 'a', 1), arc(1, 2, 'b', 0)}, Ends: []api.End{{State: 1, Cost: 2}, {State: 2}}}},
		{"Both", both, api.Auto{States: 2, Arcs: []api.Arc{arc(0, 1, 'a', 7)}, Ends: []api.End{{State: 1}}}},
	} {
		if !same(row.got, row.want) {
			t.Errorf("%s: %v; want %v", row.name, row.got, row.want)
		}
	}
	if s, is, e := reading.Inside(union, word(t, "ab", 0)); s != "a" || is || e != api.OK {
		t.Errorf("Inside: %q, %v, error %d", s, is, e)
	}
}
