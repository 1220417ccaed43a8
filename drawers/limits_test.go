package drawers_test

import (
	"fmt"
	"slices"
	"testing"

	"restante/api"
	"restante/drawers"
)

// some returns a call that receives n lots of a thing on a day, each of 100 of the unit a, never due.
func some(day, thing, n int) call {
	return receive(day, slices.Repeat([]api.Lot{coming(thing, 1, 100001, "a", 100)}, n)...)
}

func TestLotsUpToTheLimit(t *testing.T) {
	start := func(n int) *drawers.Ledger {
		l := stocked(t, some(1, 1, n))
		same(t, "lots", len(l.Lots(1)), n)
		return l
	}
	for _, x := range []struct {
		lots int
		c    call
	}{
		{1, deposit(2, 2, 1, amount("a", 1))}, {2, deposit(2, 2, 1, amount("a", 1), amount("b", 1))}, {6, receive(2, slices.Repeat([]api.Lot{coming(3, 1, 2, "b", 1)}, 6)...)},
		{1, convert(2, 5, "b", 10)}, {1, receive(2, coming(1, 1, 9, "a", 1))}, {0, deposit(2, 2, 1)}, {0, receive(2)},
	} {
		done(t, start(2000-x.lots), x.c)
		if x.lots > 0 {
			refused(t, start(2001-x.lots), api.ErrLimit, x.c)
			refused(t, start(2000), api.ErrLimit, x.c)
		}
	}
	done(t, stocked(t), some(1, 1, 2000))
	refused(t, stocked(t), api.ErrLimit, some(1, 1, 2001), some(1, 1, 30000))
	// the errors before this one
	l := start(2000)
	refused(t, l, api.ErrTwice, deposit(2, 1, 1, amount("a", 1)))
	refused(t, l, api.ErrUnit, deposit(2, 2, 1, amount("x", 1)), receive(2, coming(1, 1, 1, "x", 1)), convert(2, 1, "g", 0))
	refused(t, l, api.ErrArg, convert(2, 1, "b", 0))
	refused(t, l, api.ErrEmpty, convert(2, 1, "b", 101), convert(2, 1, "b", 1))
	refused(t, l, api.ErrNone, convert(2, 2001, "b", 1))
}

// full returns a ledger of the day 10 with exactly so many postings: 500 lots of the thing 1 and 500 of the thing 2 that are lost, some of the things 3 to 7, and many times that something was taken of the thing 3.
func full(t *testing.T, postings int) *drawers.Ledger {
	t.Helper()
	l := stocked(t, some(1, 1, 500), some(1, 2, 500),
		receive(2, coming(3, 1, 100001, "a", 1000000), coming(4, 1, 12, "a", 5), coming(5, 1, 3, "a", 50), coming(6, 2, 100001, "a", 30), coming(7, 2, 100001, "a", 30)), lose(2, 6), dispatch(2, 7, 1), advance(10))
	count := len(l.Postings())
	for ; count+1000 <= postings; count += 1000 {
		done(t, l, lose(10, 1), takeBack(10, 1))
	}
	for ; count < postings; count++ {
		done(t, l, take(10, 3, "a", 1, 1))
	}
	same(t, "postings", len(l.Postings()), postings)
	return l
}

// Every operation with its postings, as many as there may be and one more.
func TestPostingsUpToTheLimit(t *testing.T) {
	for _, x := range []struct {
		postings int
		c        call
	}{
		{1, deposit(11, 8, 1, amount("a", 1))}, {2, deposit(11, 8, 1, amount("a", 1), amount("b", 1))}, {1, pay(11, 3, 1)}, {500, pay(11, 1, 1)}, {1, take(11, 1, "a", 100, 1)}, {2, take(11, 1, "a", 101, 1)}, {2, convert(11, 1, "b", 10)},
		{1, refund(11, 5, 1)}, {500, lose(11, 1)}, {1, takeBack(11, 6)}, {500, dispatch(11, 1, 1)}, {1, arrived(11, 1)}, {1, receive(11, coming(8, 1, 12, "a", 1))}, {2, receive(11, coming(8, 1, 11, "a", 1))},
		// these have a forfeit alone, or in addition
		{1, advance(12)}, {1, setUnit(12, "more", 1)}, {1, setValue(12, "b", 7)}, {1, setTerm(12, "b", 7, 7)}, {1, deposit(12, 8, 1)}, {2, pay(12, 3, 1)}, {1, receive(12)}, {1, receive(12, nil...)}, {2, refund(12, 4, 1)},
	} {
		l := full(t, 20000-x.postings)
		done(t, l, x.c)
		same(t, "postings behind "+x.c.what, len(l.Postings()), 20000)
		l = full(t, 20001-x.postings)
		refused(t, l, api.ErrLimit, x.c)
		same(t, "day", l.Day(), 10)
	}
}

// ErrLimit for postings is the last error of each operation.
func TestPostingsAreTheLastLimit(t *testing.T) {
	l := full(t, 20000)
	refused(t, l, api.ErrForm, setUnit(12, "", 0))
	refused(t, l, api.ErrUnit, setValue(12, "x", 1), setTerm(12, "x", 1, 1), take(12, 1, "x", 1, 1), convert(12, 1, "x", 1), receive(12, coming(1, 1, 1, "x", 1)))
	refused(t, l, api.ErrTwice, setUnit(12, "a", 1), deposit(12, 1, 1, amount("a", 1)))
	refused(t, l, api.ErrNone, pay(12, 9, 1), pay(12, 4, 1), refund(12, 3, 1), lose(12, 9), takeBack(12, 1), dispatch(12, 9, 1), arrived(12, 2), convert(12, 9999, "b", 1))
	refused(t, l, api.ErrEmpty, take(12, 4, "a", 1, 1), convert(12, 1, "b", 1))
	refused(t, l, api.ErrLate, refund(9999, 5, 1))
	refused(t, l, api.ErrArg, advance(-1), pay(12, 0, 1), setValue(12, "a", 0))
	refused(t, l, api.ErrTime, advance(9))
	// what needs no posting goes on
	done(t, l, setUnit(11, "more", 1), setValue(11, "more", 5), setTerm(11, "more", 1, 5), deposit(11, 9, 1), receive(11), advance(11))
	refused(t, l, api.ErrLimit, advance(12), take(11, 3, "a", 1, 1))
}

// An operation that is refused at last leaves nothing behind, not even where later operations write.
func TestRefusedAtLast(t *testing.T) {
	l := full(t, 19999)
	done(t, l, setValue(10, "b", 8), setTerm(10, "b", 1, 50), take(11, 3, "a", 1, 1), setValue(11, "b", 9))
	refused(t, l, api.ErrLimit,
		setUnit(12, "x", 2), setValue(12, "b", 99), setValue(12, "a", 98), setTerm(12, "b", 1, 99), take(11, 3, "a", 5, 1), take(12, 3, "a", 5, 1), convert(11, 1, "b", 3), receive(11, coming(8, 1, 12, "a", 1)), pay(11, 3, 1), lose(11, 1), dispatch(11, 1, 1), arrived(11, 1), takeBack(11, 6), refund(11, 5, 1))
	done(t, l, setTerm(11, "b", 2, 60), setUnit(11, "y", 1), setValue(11, "y", 3), setValue(11, "b", 10))
	same(t, "values", fmt.Sprint(l.Value("b", 9), l.Value("b", 10), l.Value("b", 11), l.Value("b", 12), l.Value("a", 12), l.Value("x", 12), l.Value("y", 12)), "4 8 10 10 6 0 3")
	same(t, "terms", fmt.Sprint(l.Term("b", 1, 12), l.Term("b", 2, 12)), "50 60")
	same(t, "the last posting", fmt.Sprint(l.Postings()[19999]), "{11 a 1 {2 3} {3 1} 2 1001}")
}

// The greatest sums.
func TestWorthOfTheMost(t *testing.T) {
	l := stocked(t, setValue(0, "a", 100000))
	lot := coming(1, 1, 100001, "a", 1000000000)
	done(t, l, receive(1, slices.Repeat([]api.Lot{lot}, 2000)...))
	same(t, "Balance", l.Balance(thingAccount(1), "a", 1), 2000000000000)
	same(t, "Worth", l.Worth(thingAccount(1), 1), 200000000000000000)
	gives(t, l, lose(1, 1), "[{a 2000000000000}]")
	gives(t, l, takeBack(1, 1), "[{a 2000000000000}]")
	done(t, l, take(1, 1, "a", 1999999999999, 1))
	gives(t, l, pay(1, 1, 1), "[{a 1}]")
}
