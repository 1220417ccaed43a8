package drawers_test

import (
	"fmt"
	"math/rand"
	"slices"
	"testing"

	"restante/api"
	"restante/drawers"
)

// whole returns all that is in a slice and in the memory behind it.
func whole[T any](s []T) []T { return s[:cap(s)] }

// spoil changes all that is in a slice that was returned (perhaps with an error code) and in the memory behind it.
func spoil[T any](s []T, _ ...api.Errno) {
	var zero T
	for i := range whole(s) {
		whole(s)[i] = zero
	}
}

// R3: what is returned may be changed.
func TestResultsAreNewMemory(t *testing.T) {
	l, twin := busy(t), busy(t)
	check := func() {
		t.Helper()
		same(t, "all", saidOf(l, 1, 5, 11, 50), saidOf(twin, 1, 5, 11, 50))
	}
	for thing := range 5 {
		spoil(l.Lots(thing))
	}
	spoil(l.Due(100000))
	spoil(l.Postings())
	spoil(l.Trial(11))
	for _, a := range accountsOf(0, 1, 2, 8) {
		spoil(l.Balances(a, 11))
		spoil(l.Statement(a, "a", 0, 20))
	}
	check()
	goods := []api.Amount{amount("a", 30), amount("b", 4)}
	ids, e := l.Deposit(13, 4, 1, goods)
	same(t, "Deposit", fmt.Sprint(ids, e), "[7 8] 0")
	spoil(ids)
	spoil(goods)
	lots := []api.Lot{coming(4, 2, 15, "a", 50), coming(3, 3, 15, "b", 50)}
	ids, e = l.Receive(13, lots)
	same(t, "Receive", fmt.Sprint(ids, e), "[9 10] 0")
	spoil(ids)
	spoil(lots)
	done(t, twin, deposit(13, 4, 1, amount("a", 30), amount("b", 4)), receive(13, coming(4, 2, 15, "a", 50), coming(3, 3, 15, "b", 50)))
	check()
	spoil(l.Lose(14, 4))
	spoil(l.Recover(14, 4))
	spoil(l.Dispatch(14, 3, 5))
	spoil(l.Refund(16, 4, 5))
	spoil(l.Pay(16, 4, 5))
	done(t, twin, lose(14, 4), takeBack(14, 4), dispatch(14, 3, 5), refund(16, 4, 5), pay(16, 4, 5))
	check()
	list := l.Postings()
	lines, e := drawers.Audit(list)
	same(t, "Audit", e, api.OK)
	spoil(lines)
	spoil(l.Postings())
	equal(t, "the list", list, twin.Postings())
}

func TestArgumentsAreNotChanged(t *testing.T) {
	l := busy(t)
	goods := slices.Grow([]api.Amount{amount("a", 3), amount("b", 4)}, 10)
	lots := slices.Grow([]api.Lot{coming(4, 2, 15, "a", 5), coming(4, 2, 3, "b", 6)}, 10)
	list := slices.Grow(l.Postings(), 10)
	text := func() string { return fmt.Sprint(whole(goods), whole(lots), whole(list)) }
	before := text()
	_, e := l.Deposit(13, 4, 1, goods)
	same(t, "Deposit", e, api.OK)
	_, e = l.Deposit(13, 4, 1, goods)
	same(t, "Deposit again", e, api.ErrTwice)
	_, e = l.Receive(13, lots)
	same(t, "Receive", e, api.OK)
	_, e = drawers.Audit(list)
	same(t, "Audit", e, api.OK)
	same(t, "the arguments and the memory behind them", text(), before)
}

// P6.9, R4: a ledger that was asked many questions and refused many operations is one that had the others alone.
func TestErrorsChangeNothing(t *testing.T) {
	errors := 0
	for seed := range int64(80) {
		c := chance{rand.New(rand.NewSource(seed))}
		l, o := drawers.New(), newOracle()
		accepted := started(0)
		done(t, l, accepted...)
		done(t, o, accepted...)
		for range 60 {
			x := c.operation(o)
			if both(t, l, o, x) == api.OK {
				accepted = append(accepted, x)
			} else {
				errors++
			}
			said(l)
		}
		twin := drawers.New()
		done(t, twin, accepted...)
		same(t, "all", saidOf(twin, 0, o.day-5, o.day-1, o.day, 100000), saidOf(l, 0, o.day-5, o.day-1, o.day, 100000))
	}
	if errors < 500 {
		t.Errorf("only %d errors", errors)
	}
}

// Ledgers do not know of each other.
func TestLedgersAreApart(t *testing.T) {
	one, other, third := busy(t), busy(t), busy(t)
	done(t, one, deposit(13, 4, 1, amount("a", 30)), setValue(13, "a", 50), setTerm(13, "a", 1, 1))
	done(t, other, deposit(14, 5, 2, amount("b", 30)), setValue(14, "b", 60), setUnit(14, "cc", 1), pay(14, 1, 1))
	same(t, "the third ledger", saidOf(third, 12, 13, 14), saidOf(busy(t), 12, 13, 14))
	same(t, "the last posting", fmt.Sprint(one.Postings()[len(one.Postings())-1]), "{13 a 30 {1 0} {2 4} 1 7}")
}
