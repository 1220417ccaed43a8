package drawers_test

import (
	"fmt"
	"testing"

	"restante/api"
	"restante/drawers"
)

// sample returns the ledger of the chapter's examples, with some more operations.
func sample(t *testing.T, calls ...call) *drawers.Ledger {
	t.Helper()
	l := drawers.New()
	done(t, l,
		setUnit(0, "crown", api.UnitCoin), setUnit(0, "penny", api.UnitCoin), setUnit(0, "mark", api.UnitCoin), setUnit(0, "ring", api.UnitGood),
		setValue(0, "crown", 240), setValue(0, "penny", 1), setValue(0, "mark", 160),
		setTerm(0, "penny", 1, 100), setTerm(0, "crown", 1, 10), setTerm(0, "crown", 50, 400),
	)
	done(t, l, calls...)
	return l
}

// converted returns the ledger of the examples after the first two rows of the table.
func converted(t *testing.T, calls ...call) *drawers.Ledger {
	t.Helper()
	l := sample(t)
	gives(t, l, deposit(5, 9, 2, amount("crown", 7), amount("ring", 1)), "[1 2]")
	gives(t, l, convert(6, 1, "mark", 5), "4 6")
	done(t, l, calls...)
	return l
}

// TestExamples has the table of the chapter, row by row.
func TestExamples(t *testing.T) {
	l := sample(t, deposit(5, 9, 2, amount("crown", 7), amount("ring", 1)))
	lots := l.Lots(9)
	same(t, "lots", len(lots), 2)
	same(t, "lot 1", fmt.Sprint(lots[0].Due, lots[0].Left), "15 7")
	same(t, "lot 2", fmt.Sprint(lots[1].Due, lots[1].Left), "100001 1")
	same(t, "worth before", l.Worth(thingAccount(9), 6), 1680)
	l = converted(t)
	same(t, "worth after", l.Worth(thingAccount(9), 6), 1680)
	third := l.Lots(9)[2]
	same(t, "lot 3", fmt.Sprint(third), "{3 9 2 6 15 mark 6 6 1 0}")

	gives(t, l, advance(20), "2")
	last := l.Postings()[len(l.Postings())-2:]
	same(t, "the last postings", fmt.Sprint(last), "[{15 crown 3 {2 9} {4 0} 3 1} {15 mark 6 {2 9} {4 0} 3 3}]")
	gives(t, l, refund(21, 9, 4), "[{crown 2} {mark 5}]")
	refused(t, l, api.ErrEmpty, take(21, 9, "ring", 2, 4))
	gives(t, l, pay(21, 9, 4), "[{ring 1}]")

	l = converted(t, advance(20))
	refused(t, l, api.ErrLate, refund(1111, 9, 4))
	gives(t, l, refund(1110, 9, 4), "[{crown 2} {mark 5}]")

	l = sample(t)
	for _, x := range []struct {
		unit string
		n    int
		want int
	}{{"crown", 60, 400}, {"crown", 49, 10}, {"ring", 1, 0}} {
		same(t, "Term of "+x.unit, l.Term(x.unit, x.n, 3), x.want)
	}
}

// The fifth example of the document: 5 crowns worth 240 grains each, to be converted to marks worth 160.
func TestExampleOfTheDocument(t *testing.T) {
	l := sample(t, deposit(0, 1, 1, amount("crown", 5)))
	gives(t, l, convert(0, 1, "mark", 5), "4 6")
	same(t, "the crowns that stay", l.Lots(1)[0].Left, 1)
}

func TestNewLedger(t *testing.T) {
	l := drawers.New()
	same(t, "all", saidOf(l, -1, 0, 100000), saidOf(newOracle(), -1, 0, 100000))
	same(t, "day", l.Day(), 0)
	gives(t, l, advance(0), "0")
	gives(t, l, advance(100000), "0")
	same(t, "day", l.Day(), 100000)
	done(t, drawers.New(), setUnit(0, "crown", 1)) // two ledgers do not know of each other
	same(t, "another ledger", l.SetUnit(100000, "crown", 2), api.OK)
}
