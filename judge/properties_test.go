package judge_test

import (
	"fmt"
	"maps"
	"math/rand"
	"slices"
	"testing"

	"restante/api"
	"restante/judge"
	"restante/reading"
)

// costsOf returns what the candidates left for a role cost.
func costsOf(t *testing.T, c api.Case, role int) map[pair]int {
	t.Helper()
	l, e := judge.Ranked(c, role)
	same(t, "Ranked", e, api.OK)
	costs := map[pair]int{}
	for _, x := range l {
		costs[x.Who] = x.Cost
	}
	return costs
}

// wantFewer requires that the candidates left in d were left in c, for no greater cost.
func wantFewer(t *testing.T, c, d api.Case) (fell int) {
	t.Helper()
	for role := 1; role <= 2; role++ {
		old, next := costsOf(t, c, role), costsOf(t, d, role)
		for who, cost := range next {
			before, was := old[who]
			same(t, fmt.Sprint("the candidate ", who, " was left before"), was, true)
			same(t, fmt.Sprint("the cost of ", who, " was not greater before: ", before, " and now ", cost), before <= cost, true)
		}
		fell += len(old) - len(next)
	}
	return fell
}

// withLooks returns a case in which some looks are made too.
func withLooks(c api.Case, more ...api.Look) api.Case {
	for _, l := range more {
		if !slices.Contains(c.Made, l) {
			c.Made = plus(c.Made, l)
		}
	}
	c.May = slices.DeleteFunc(slices.Clone(c.May), func(l api.Look) bool { return slices.Contains(c.Made, l) })
	c.Opened = depthOf(c.Made)
	return c
}

// P5.2.
func TestMoreLooks(t *testing.T) {
	fell := 0
	cases(t, 14, 600, 0, func(c api.Case, r *rand.Rand) {
		fell += wantFewer(t, c, withLooks(c, randomSet(r, c.Thing)...))
	})
	same(t, "candidates fell", fell > 100, true)
}

// P5.3.
func TestClearerWriting(t *testing.T) {
	fell := 0
	cases(t, 15, 600, 0, func(c api.Case, r *rand.Rand) {
		if len(c.Made) == 0 {
			return
		}
		l, d := pick(r, c.Made...), copyCase(c)
		piece := &d.Thing.Layers[l.Layer-1].Pieces[l.Piece]
		clear := copyCase(c).Thing.Layers[l.Layer-1].Pieces[l.Piece].Cells
		for i := range clear {
			alts := clear[i].Alts
			clear[i].Alts = alts[r.Intn(len(alts)):]
			for j := range clear[i].Alts {
				clear[i].Alts[j].Cost = r.Intn(9)
			}
		}
		narrow, e := reading.Narrow(piece.Cells, clear)
		same(t, "Narrow", e, api.OK)
		piece.Cells = narrow
		fell += wantFewer(t, c, d)
	})
	same(t, "candidates fell", fell > 100, true)
}

// P5.4: the truth is never excluded.
func TestTruth(t *testing.T) {
	met := 0
	cases(t, 16, 600, 0, func(c api.Case, r *rand.Rand) {
		o := oracleOf(c)
		if len(o.candidates()) == 0 {
			return
		}
		who, role := pick(r, o.candidates()...), 1+r.Intn(2)
		d := copyCase(c)
		for _, l := range having(c, c.Made, role) {
			names := o.names(kindAt(c, l), who)
			if len(names) == 0 {
				return
			}
			texts := spellings(pick(r, names...), o.k.Spells)
			d.Thing.Layers[l.Layer-1].Pieces[l.Piece].Cells = worn(r, pick(r, slices.Sorted(maps.Keys(texts))...))
			met++
		}
		left, e := judge.Left(d, role)
		same(t, "Left", e, api.OK)
		same(t, fmt.Sprint("the true candidate ", who, " is left for ", role), slices.Contains(left, who), true)
	})
	same(t, "pieces were read", met > 200, true)
}

// P5.5: what two candidates who are left have in common with a look.
func TestLeftTogether(t *testing.T) {
	met := 0
	cases(t, 17, 600, 0, func(c api.Case, r *rand.Rand) {
		o := oracleOf(c)
		for _, l := range c.Made {
			said := readings(c.Thing.Layers[l.Layer-1].Pieces[l.Piece].Cells)
			left, e := judge.Left(c, judge.Role(kindAt(c, l)))
			same(t, "Left", e, api.OK)
			for _, who := range left {
				_, is := cheapest(said, o.texts(kindAt(c, l), who))
				same(t, fmt.Sprint("the cells of ", l, " accept a spelling of a name of ", who), is, true)
				met++
			}
		}
	})
	same(t, "candidates were left", met > 200, true)
}

// P5.8: looking ends.
func TestEnds(t *testing.T) {
	most := 0
	planCases(t, 18, 400, func(c api.Case, r *rand.Rand) {
		looks := 0
		for {
			v, e := judge.Decide(c)
			same(t, "Decide", e, api.OK)
			if v.Kind != api.VerLook {
				break
			}
			same(t, "the look may be made", slices.Contains(c.May, v.Look), true)
			c = withLooks(c, v.Look)
			looks++
			same(t, "the number of looks", looks <= 10, true)
		}
		most = max(most, looks)
	})
	same(t, "several looks were made", most > 1, true)
}

// P5.9: what comes in later changes nothing.
func TestLaterBooks(t *testing.T) {
	cases(t, 19, 100, 0, func(c api.Case, r *rand.Rand) {
		d := copyCase(c)
		d.Books = judge.Known(d.Books, d.Day)
		before := everything(d)
		same(t, "all that is said with later entries and events", everything(c), before)
		for range 1 + r.Intn(3) {
			d.Books.Places = append(d.Books.Places, api.PlaceEvent{Day: d.Day + 1 + r.Intn(3), Kind: uint8(r.Intn(7)), Place: r.Intn(8), Other: r.Intn(8), Name: pick(r, "", "q", "ay")})
			d.Books.People = append(d.Books.People, api.Entry{Day: d.Day + 1 + r.Intn(3), Kind: uint8(r.Intn(9)), Since: r.Intn(9), Person: r.Intn(8), Place: r.Intn(8), Other: r.Intn(8), Name: pick(r, "", "q", "ann")})
		}
		same(t, "all that is said with any later entries and events", everything(d), before)
	})
}

// P5.10: what was not shown changes nothing.
func TestSecrecy(t *testing.T) {
	cases(t, 20, 120, 0, func(c api.Case, r *rand.Rand) {
		d := copyCase(c)
		for _, l := range allLooks(c.Thing) {
			if !slices.Contains(c.Made, l) {
				d.Thing.Layers[l.Layer-1].Pieces[l.Piece].Cells = pick(r, nil, worn(r, randomName(r)), broad())
			}
		}
		same(t, "all that is said of another thing", everything(d), everything(c))
	})
}
