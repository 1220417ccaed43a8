package judge_test

import (
	"testing"

	"restante/api"
	"restante/judge"
)

// sample is the first case of the chapter's examples.
func sample() api.Case {
	found := func(place, other int, name string) api.PlaceEvent {
		return api.PlaceEvent{Kind: api.PlaceFound, Place: place, Other: other, Name: name}
	}
	c := api.Case{Day: 9, Opened: 1, Weights: [3]int{0, 20, 60}, Made: []api.Look{{Layer: 1, Piece: 0}}, May: []api.Look{{Layer: 2, Piece: 0}, {Layer: 2, Piece: 1}}}
	c.Books.Places = []api.PlaceEvent{found(1, 0, "north"), found(2, 1, "ayton"), found(3, 1, "ayford")}
	for i, name := range []string{"ann lee", "ann lee", "bob lee"} {
		c.Books.People = append(c.Books.People, api.Entry{Kind: api.EntryName, Person: i + 1, Name: name})
	}
	for i, place := range []int{2, 3, 2} {
		c.Books.People = append(c.Books.People, api.Entry{Kind: api.EntryLive, Person: i + 1, Place: place})
	}
	c.Thing = api.Thing{Id: 1, Day: 5, Layers: []api.Layer{
		{Pieces: []api.Piece{{Kind: api.PieceToName, Cells: plain("ann lee")}}},
		{Pieces: []api.Piece{{Kind: api.PieceToPlace, Cells: plain("ayton")}, {Kind: api.PieceToRegion, Cells: plain("north")}}},
	}}
	return c
}

// sampleMade is the sample after a look at the place.
func sampleMade() api.Case {
	c := sample()
	c.Made, c.Opened, c.May = []api.Look{{Layer: 1, Piece: 0}, {Layer: 2, Piece: 0}}, 2, []api.Look{{Layer: 2, Piece: 1}}
	return c
}

// TestExamples has the table of the chapter, row by row.
func TestExamples(t *testing.T) {
	c := sample()
	left, e := judge.Left(c, api.RoleTo)
	same(t, "Left", show(left, e), "[[{Person:1 Place:2} {Person:2 Place:3}] 0]")
	x, e := judge.Certify(c, api.RoleTo)
	same(t, "Certify", show(x, e), "[{Left:[{Person:1 Place:2} {Person:2 Place:3}] Fell:[{Who:{Person:3 Place:2} By:{Layer:1 Piece:0}}]} 0]")
	a, e := judge.Apart(c, api.PieceToPlace, left[0], left[1])
	same(t, "Apart by place", show(a, e), "[true 0]")
	a, e = judge.Apart(c, api.PieceToRegion, left[0], left[1])
	same(t, "Apart by region", show(a, e), "[false 0]")
	p, is, e := judge.Least(c, api.RoleTo)
	same(t, "Least", show(p, is, e), "[{Looks:[{Layer:2 Piece:0}] Intrusion:21 Rungs:[{Looks:[] A:{Person:1 Place:2} B:{Person:2 Place:3}}]} true 0]")
	v, e := judge.Decide(c)
	same(t, "Decide", show(v.Kind, v.Look, v.Who, v.Route, v.Place, e), "[3 {Layer:2 Piece:0} {Person:0 Place:0} {Kind:0 End:{Person:0 Place:0} Hops:[] Back:0} 0 0]")
	equal(t, "the plan of Decide", v.Plan, p)
	equal(t, "the certificate of Decide", v.To, x)
	v, e = judge.Decide(sampleMade())
	same(t, "Decide after the look", show(v.Kind, v.Who, v.Route, v.Place, v.Look, e), "[1 {Person:1 Place:2} {Kind:1 End:{Person:1 Place:2} Hops:[] Back:0} 2 {Layer:0 Piece:0} 0]")
	c.May = nil
	v, e = judge.Decide(c)
	same(t, "Decide without looks", show(v.Kind, e), "[4 0]")
}
