package judge_test

import (
	"cmp"
	"fmt"
	"math/rand"
	"slices"
	"strings"
	"testing"

	"restante/api"
	"restante/judge"
)

// someRoles are the roles, and what is none.
func someRoles(r *rand.Rand) []int { return []int{1, 2, pick(r, append(extremes(), 3)...)} }

// E4, E5, E6.
func TestCandidatesAgainstTheOracle(t *testing.T) {
	met := map[string]int{}
	cases(t, 5, 1500, 8, func(c api.Case, r *rand.Rand) {
		o, e := oracleOf(c), caseError(c)
		l, e2 := judge.Candidates(c)
		if e != api.OK {
			equal(t, "Candidates", []any{l, e2}, []any{[]pair{}, e})
			return
		}
		equal(t, "Candidates", []any{l, e2}, []any{o.candidates(), e})
		for range 4 {
			who, kind, l := randomPair(r, o), uint8(1+r.Intn(6)), randomLook(r, c.Thing)
			names, e := judge.Names(c, kind, who)
			equal(t, fmt.Sprint("Names of ", kind, who), []any{names, e}, []any{o.names(kind, who), api.OK})
			met[fmt.Sprint("names ", min(len(names), 2))]++
			if len(c.Made) > 0 {
				l = pick(r, append(slices.Clone(c.Made), l)...)
			}
			cost, fits, e := judge.Fits(c, who, l)
			if !slices.Contains(c.Made, l) {
				same(t, "Fits of a look that was not made", show(cost, fits, e), show(0, false, api.ErrNone))
				continue
			}
			wantCost, wantFits := o.fits(who, l)
			same(t, fmt.Sprint("Fits of ", who, l), show(cost, fits, e), show(wantCost, wantFits, api.OK))
			met[fmt.Sprint("fits ", fits, " with a cost ", cost > 0)]++
		}
	})
	for _, what := range []string{"names 0", "names 1", "names 2", "fits true with a cost true", "fits true with a cost false", "fits false with a cost false"} {
		same(t, what+" was met", met[what] > 40, true)
	}
}

// E4: who dies, moves, or lives at a place that is not there.
func TestCandidates(t *testing.T) {
	live := func(person, place, since, until int) api.Entry {
		return api.Entry{Kind: api.EntryLive, Person: person, Place: place, Since: since, Until: until}
	}
	c := sample()
	c.Books.People = append(c.Books.People[:3:3], live(1, 2, 0, 5), live(1, 3, 5, 6), live(2, 7, 0, 0), live(2, 1, 0, 0), live(2, 1, 3, 0), live(3, 2, 6, 0), live(3, 3, 0, 0))
	l, e := judge.Candidates(c)
	same(t, "Candidates", show(l, e), "[[{Person:1 Place:3} {Person:2 Place:1} {Person:3 Place:3}] 0]")
	c.Books.Places = append(c.Books.Places, api.PlaceEvent{Day: 5, Kind: api.PlaceMerge, Place: 3, Other: 2})
	c.Books.People = append(c.Books.People, api.Entry{Day: 5, Kind: api.EntryLive, Person: 1, Place: 1}, api.Entry{Day: 9, Kind: api.EntryDeath, Person: 2, Since: 5})
	l, e = judge.Candidates(c)
	same(t, "Candidates after a death and a merger", show(l, e), "[[{Person:1 Place:1}] 0]")
	c.Day = 8
	l, e = judge.Candidates(c)
	same(t, "Candidates before the death was known", show(l, e), "[[{Person:1 Place:1} {Person:2 Place:1}] 0]")
	c.Books.People = nil
	l, e = judge.Candidates(c)
	same(t, "Candidates of an empty directory", show(l, e), "[[] 0]")
}

// E5: names are those of the day of posting, by what is known on the day of the verdict.
func TestNames(t *testing.T) {
	c := sample()
	c.Books.Places = append(c.Books.Places, api.PlaceEvent{Day: 4, Kind: api.PlaceRename, Place: 1, Name: "great north"},
		api.PlaceEvent{Day: 5, Kind: api.PlaceAlias, Place: 2, Name: "ay"}, api.PlaceEvent{Day: 5, Kind: api.PlaceFound, Place: 4, Other: 3, Name: "north"},
		api.PlaceEvent{Day: 6, Kind: api.PlaceAlias, Place: 2, Name: "late"})
	c.Books.People = append(c.Books.People, api.Entry{Day: 8, Kind: api.EntryName, Person: 1, Since: 2, Until: 6, Name: "ann"},
		api.Entry{Day: 9, Kind: api.EntryName, Person: 1, Since: 6, Name: "anna"})
	for _, x := range []struct {
		kind uint8
		who  pair
		want string
	}{
		{1, pair{Person: 1, Place: 2}, "ann,ann lee"},
		{4, pair{Person: 1}, "ann,ann lee"},
		{1, pair{Person: 7, Place: 2}, ""},
		{2, pair{Place: 2}, "ay,ayton"},
		{5, pair{Person: 2, Place: 3}, "ayford"},
		{2, pair{Person: 1, Place: 9}, ""},
		{3, pair{Place: 2}, "great north,north"},
		{6, pair{Person: 2, Place: 4}, "ayford,great north,north"},
		{3, pair{Person: 1, Place: 1}, ""},
	} {
		l, e := judge.Names(c, x.kind, x.who)
		same(t, fmt.Sprint("Names ", x.kind, x.who), show(strings.Join(l, ","), e), show(x.want, api.OK))
	}
	c.Day = 7
	l, e := judge.Names(c, 1, pair{Person: 1})
	same(t, "Names before the entry", show(l, e), "[[ann lee] 0]")
}

// E6: the cost is that of the least sum over all names and strings.
func TestFits(t *testing.T) {
	c := sample()
	c.Books.Spells = []api.Spell{{From: "ee", To: "ea", Cost: 7}, {From: "nn", To: "n", Cost: 4}}
	c.Books.People = append(c.Books.People, api.Entry{Kind: api.EntryName, Person: 2, Name: "an lee"})
	cells := plain("ann lee")
	cells[2].Alts[0].Cost = 10
	cells[2].Alts = append(cells[2].Alts, api.Alt{Cost: 5})
	c.Thing.Layers[0].Pieces[0].Cells = cells
	for _, x := range []struct {
		who  pair
		want string
	}{
		{pair{Person: 1, Place: 2}, "[9 true 0]"}, // an, by a rule
		{pair{Person: 2, Place: 9}, "[5 true 0]"}, // an, by a name
		{pair{Person: 3, Place: 2}, "[0 false 0]"},
		{pair{Person: 8, Place: 2}, "[0 false 0]"},
	} {
		cost, fits, e := judge.Fits(c, x.who, api.Look{Layer: 1})
		same(t, fmt.Sprint("Fits ", x.who), show(cost, fits, e), x.want)
	}
	for _, l := range []api.Look{{}, {Layer: 2}, {Layer: 1, Piece: 1}, {Layer: -1, Piece: -1}} {
		cost, fits, e := judge.Fits(c, pair{Person: 1, Place: 2}, l)
		same(t, fmt.Sprint("Fits of the look ", l), show(cost, fits, e), show(0, false, api.ErrNone))
	}
}

// spoiltCert returns a certificate that is perhaps not right.
func spoiltCert(r *rand.Rand, c api.Case, o *oracle, x api.Cert) api.Cert {
	x.Left, x.Fell = slices.Clone(x.Left), slices.Clone(x.Fell)
	for range 1 + r.Intn(2) {
		fell, who := anyOf(r, x.Fell), anyOf(r, x.Left)
		switch r.Intn(10) {
		case 0:
			fell.By = randomLook(r, c.Thing)
		case 1:
			if len(c.Made) > 0 {
				fell.By = pick(r, c.Made...)
			}
		case 2:
			fell.Who = randomPair(r, o)
		case 3:
			*who = randomPair(r, o)
		case 4:
			x.Left = x.Left[:r.Intn(len(x.Left)+1)]
		case 5:
			x.Fell = x.Fell[:r.Intn(len(x.Fell)+1)]
		case 6: // one of those left falls
			x.Fell = append(x.Fell, api.Fell{Who: *who, By: randomLook(r, c.Thing)})
			x.Left = slices.DeleteFunc(x.Left, func(y pair) bool { return y == *who && r.Intn(3) > 0 })
			sortFell(x.Fell)
		case 7: // one that fell is left
			x.Left = append(x.Left, fell.Who)
			x.Fell = slices.DeleteFunc(x.Fell, func(y api.Fell) bool { return y.Who == fell.Who && r.Intn(3) > 0 })
			slices.SortFunc(x.Left, comparePairs)
		case 8:
			slices.Reverse(x.Left)
			slices.Reverse(x.Fell)
		case 9:
			x.Left, x.Fell = append(x.Left, *who), append(x.Fell, *fell)
		}
	}
	return x
}

func comparePairs(a, b pair) int {
	return cmp.Or(cmp.Compare(a.Person, b.Person), cmp.Compare(a.Place, b.Place))
}

func sortFell(l []api.Fell) {
	slices.SortFunc(l, func(a, b api.Fell) int { return comparePairs(a.Who, b.Who) })
}

// byCost returns the candidates left in the order of Ranked.
func byCost(l []api.Scored) []api.Scored {
	l = slices.Clone(l)
	slices.SortStableFunc(l, func(a, b api.Scored) int { return cmp.Compare(a.Cost, b.Cost) })
	return l
}

// E7, E8, E9, E10, P5.1.
func TestLeftAgainstTheOracle(t *testing.T) {
	met := map[string]int{}
	cases(t, 6, 1000, 8, func(c api.Case, r *rand.Rand) {
		o := oracleOf(c)
		for _, role := range someRoles(r) {
			left, e := judge.Left(c, role)
			n, e2 := judge.Count(c, role)
			ranked, e3 := judge.Ranked(c, role)
			x, e4 := judge.Certify(c, role)
			right, e5 := judge.CheckCert(c, role, x)
			if want := roleError(c, role); want != api.OK {
				same(t, "the role or the case", show(left, e, n, e2, ranked, e3, x, e4, right, e5), show([]pair{}, want, 0, want, []pair{}, want, api.Cert{}, want, false, want))
				continue
			}
			equal(t, "Left", []any{left, e}, []any{o.left(role), api.OK})
			same(t, "Count", show(n, e2), show(o.count(role), api.OK))
			equal(t, "Ranked", []any{ranked, e3}, []any{byCost(o.ranked(role)), api.OK})
			equal(t, "Certify", []any{x, e4}, []any{o.certificate(role), api.OK})
			same(t, "CheckCert of it", show(right, e5), "[true 0]")
			met[fmt.Sprint("Count ", n)]++
			for range 6 {
				y := spoiltCert(r, c, o, x)
				right, e := judge.CheckCert(c, role, y)
				same(t, fmt.Sprintf("CheckCert for %d of %+v", role, y), show(right, e), show(o.certified(role, y), api.OK))
				if right {
					equal(t, "Left of what CheckCert accepts", y.Left, left)
				}
				met[fmt.Sprint("CheckCert ", right, show(x) == show(y))]++
			}
		}
	})
	for _, what := range []string{"Count 0", "Count 1", "Count 2", "CheckCert true false", "CheckCert true true", "CheckCert false false"} {
		same(t, what+" was met", met[what] > 20, true)
	}
}

// E7: several places of one person are one person.
func TestCount(t *testing.T) {
	c := sampleMade()
	for _, x := range []struct {
		live []int // persons at the place 2
		want uint8
	}{{nil, api.LeftNone}, {[]int{3}, api.LeftNone}, {[]int{1}, api.LeftOne}, {[]int{1, 2}, api.LeftMany}, {[]int{1, 2, 3}, api.LeftMany}} {
		c.Books.People = c.Books.People[:3:3]
		for _, person := range x.live {
			c.Books.People = append(c.Books.People, api.Entry{Kind: api.EntryLive, Person: person, Place: 2})
		}
		n, e := judge.Count(c, api.RoleTo)
		same(t, fmt.Sprint("Count of ", x.live), show(n, e), show(x.want, api.OK))
	}
	c = sample()
	c.Books.People = append(c.Books.People[:3:3], api.Entry{Kind: api.EntryLive, Person: 1, Place: 2}, api.Entry{Kind: api.EntryLive, Person: 1, Place: 3})
	n, e := judge.Count(c, api.RoleTo)
	same(t, "Count of two places", show(n, e), show(api.LeftOne, api.OK))
}

// E8: by cost, then by person, then by place.
func TestRanked(t *testing.T) {
	c := sample()
	cells := plain("ann lee")
	cells[0].Alts = []api.Alt{{Letters: "a", Cost: 3}, {Letters: "b"}}
	cells[1].Alts = append(cells[1].Alts, api.Alt{Letters: "o"})
	cells[2].Alts = append(cells[2].Alts, api.Alt{Letters: "b", Cost: 2})
	c.Thing.Layers[0].Pieces[0].Cells = cells
	c.Books.People = append(c.Books.People, api.Entry{Kind: api.EntryLive, Person: 2, Place: 1})
	l, e := judge.Ranked(c, api.RoleTo)
	same(t, "Ranked", show(l, e), "[[{Who:{Person:3 Place:2} Cost:2} {Who:{Person:1 Place:2} Cost:3} {Who:{Person:2 Place:1} Cost:3} {Who:{Person:2 Place:3} Cost:3}] 0]")
	l, e = judge.Ranked(c, api.RoleFrom)
	same(t, "Ranked by no look", show(l, e), "[[{Who:{Person:1 Place:2} Cost:0} {Who:{Person:2 Place:1} Cost:0} {Who:{Person:2 Place:3} Cost:0} {Who:{Person:3 Place:2} Cost:0}] 0]")
	place := plain("ayton")
	place[0].Alts[0].Cost = 5
	c.Thing.Layers[1].Pieces[0].Cells = place
	c.Made, c.May, c.Opened = append(c.Made, api.Look{Layer: 2}), nil, 2
	l, e = judge.Ranked(c, api.RoleTo)
	same(t, "Ranked by two looks", show(l, e), "[[{Who:{Person:3 Place:2} Cost:7} {Who:{Person:1 Place:2} Cost:8}] 0]")
}

// E10: each of the conditions.
func TestCheckCert(t *testing.T) {
	c := sample()
	c.Thing.Layers[0].Pieces = append(c.Thing.Layers[0].Pieces, api.Piece{Kind: api.PieceFromName, Cells: plain("nobody")})
	c.Made = append(c.Made, api.Look{Layer: 1, Piece: 1})
	a, b, d := pair{Person: 1, Place: 2}, pair{Person: 2, Place: 3}, pair{Person: 3, Place: 2}
	by := api.Look{Layer: 1}
	for i, x := range []struct {
		cert api.Cert
		want bool
	}{
		{api.Cert{Left: []pair{a, b}, Fell: []api.Fell{{Who: d, By: by}}}, true},
		{api.Cert{Left: []pair{b, a}, Fell: []api.Fell{{Who: d, By: by}}}, false},
		{api.Cert{Left: []pair{a, a, b}, Fell: []api.Fell{{Who: d, By: by}}}, false},
		{api.Cert{Left: []pair{a, b}, Fell: []api.Fell{{Who: d, By: by}, {Who: d, By: by}}}, false},
		{api.Cert{Left: []pair{a, b, d}}, false},
		{api.Cert{Left: []pair{a, b, d}, Fell: []api.Fell{{Who: d, By: by}}}, false},
		{api.Cert{Left: []pair{a}, Fell: []api.Fell{{Who: d, By: by}}}, false},
		{api.Cert{Left: []pair{a}, Fell: []api.Fell{{Who: b, By: by}, {Who: d, By: by}}}, false},
		{api.Cert{Left: []pair{a, b}}, false},
		{api.Cert{Left: []pair{a, b}, Fell: []api.Fell{{Who: d}}}, false},
		{api.Cert{Left: []pair{a, b}, Fell: []api.Fell{{Who: d, By: api.Look{Layer: 1, Piece: 1}}}}, false}, // of the other role
		{api.Cert{Left: []pair{a, b}, Fell: []api.Fell{{Who: d, By: api.Look{Layer: 2}}}}, false},           // not made
		{api.Cert{Left: []pair{a, b}, Fell: []api.Fell{{Who: d, By: by}, {Who: pair{Person: 4, Place: 2}, By: by}}}, false},
		{api.Cert{Left: []pair{{}, a, b}, Fell: []api.Fell{{Who: d, By: by}}}, false},
		{api.Cert{}, false},
	} {
		right, e := judge.CheckCert(c, api.RoleTo, x.cert)
		same(t, fmt.Sprint("the certificate ", i), show(right, e), show(x.want, api.OK))
	}
	none := c
	none.Books.People = nil
	right, e := judge.CheckCert(none, api.RoleTo, api.Cert{Left: []pair{}, Fell: []api.Fell{}})
	same(t, "the certificate of nobody", show(right, e), "[true 0]")
	// by whichever look a candidate falls
	c.Made, c.Opened, c.May = []api.Look{{Layer: 1}, {Layer: 2}}, 2, nil
	for _, by := range []api.Look{{Layer: 1}, {Layer: 2}} {
		x := api.Cert{Left: []pair{a}, Fell: []api.Fell{{Who: b, By: api.Look{Layer: 2}}, {Who: d, By: by}}}
		right, e := judge.CheckCert(c, api.RoleTo, x)
		same(t, fmt.Sprint("by ", by), show(right, e), show(by.Layer == 1, api.OK))
	}
}
