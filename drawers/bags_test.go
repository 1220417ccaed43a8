package drawers_test

import (
	"fmt"
	"math"
	"testing"

	"restante/api"
	"restante/drawers"
)

func TestDispatch(t *testing.T) {
	l := stocked(t, receive(5, coming(7, 2, 50, "b", 3), coming(7, 1, 8, "a", 1), coming(8, 1, 15, "a", 2), coming(7, 3, 100001, "b", 4), coming(7, 1, 6, "g", 7)), take(5, 7, "b", 1, 1))
	refused(t, l, api.ErrArg, dispatch(5, 0, 1), dispatch(5, 7, 0), dispatch(5, 1000001, 1), dispatch(5, 7, 1000001), dispatch(5, 9, -1), dispatch(5, math.MaxInt, 1), dispatch(5, 7, math.MinInt))
	refused(t, l, api.ErrNone, dispatch(5, 9, 1), dispatch(5, 1000000, 1000000))
	gives(t, l, dispatch(6, 7, 1000000), "[{1 7 2 5 50 b 3 2 6 1000000} {2 7 1 5 8 a 1 1 6 1000000} {4 7 3 5 100001 b 4 4 6 1000000}]")
	same(t, "postings", states(l, 7, 4), "2 6 1000000, 1 6 1000000, 4 6 1000000, 7 3 0, [{6 g 7 {2 7} {4 0} 3 5} {6 b 2 {2 7} {7 1000000} 8 1} {6 a 1 {2 7} {7 1000000} 8 2} {6 b 4 {2 7} {7 1000000} 8 4}]")
	gives(t, l, advance(14), "0") // what is in a bag is not forfeited
	refused(t, l, api.ErrNone, dispatch(14, 7, 2), pay(14, 7, 1), lose(14, 7))
	same(t, "the bag", fmt.Sprint(l.Balances(bagAccount(1000000), 14)), "[{a 1} {b 6}]")
}

func TestArrived(t *testing.T) {
	l := stocked(t, receive(5, coming(7, 2, 50, "b", 3), coming(8, 1, 8, "a", 1), coming(9, 1, 15, "a", 2), coming(7, 3, 100001, "b", 4)), dispatch(5, 8, 3), dispatch(5, 9, 4), dispatch(6, 7, 3))
	refused(t, l, api.ErrArg, arrived(6, 0), arrived(6, 1000001), arrived(6, -1), arrived(6, math.MinInt), arrived(6, math.MaxInt))
	refused(t, l, api.ErrNone, arrived(6, 1), arrived(6, 7), arrived(6, 1000000))
	gives(t, l, arrived(60, 3), "3")
	same(t, "lots", fmt.Sprint(l.Lots(7), l.Lots(8), l.Lots(9)), "[{1 7 2 5 50 b 3 0 7 3} {4 7 3 5 100001 b 4 0 7 3}] [{2 8 1 5 8 a 1 0 7 3}] [{3 9 1 5 15 a 2 2 6 4}]")
	same(t, "postings", states(l, 1, 3), "[{60 b 3 {7 3} {1 0} 9 1} {60 a 1 {7 3} {1 0} 9 2} {60 b 4 {7 3} {1 0} 9 4}]")
	refused(t, l, api.ErrNone, arrived(60, 3))
	// the number of a bag may be used again
	done(t, l, receive(60, coming(6, 1, 99, "g", 5)), dispatch(61, 6, 3))
	gives(t, l, arrived(62, 3), "1")
	gives(t, l, arrived(62, 4), "1")
}

func TestReceive(t *testing.T) {
	l := stocked(t)
	gives(t, l, receive(4), "[]")
	same(t, "day", l.Day(), 4)
	odd := api.Lot{Id: 77, Thing: 7, Layer: 2, Day: -5, Due: 40, Unit: "a", N: -9, Left: 3, State: 99, Bag: 12}
	gives(t, l, receive(20, odd, coming(7, 1, 20, "b", 4), coming(7, 2, 19, "g", 1000000000), coming(1000000, 3, 100001, "a", 1), odd, coming(7, 1, 1, "b", 5), coming(7, 1, 21, "b", 6), coming(7, 1, 19, "a", 7)), "[1 2 3 4 5 6 7 8]")
	same(t, "lots", fmt.Sprint(l.Lots(7)), "[{1 7 2 20 40 a 3 3 1 0} {2 7 1 20 20 b 4 4 3 0} {3 7 2 20 19 g 1000000000 1000000000 3 0} {5 7 2 20 40 a 3 3 1 0} {6 7 1 20 1 b 5 5 3 0} {7 7 1 20 21 b 6 6 1 0} {8 7 1 20 19 a 7 7 3 0}]")
	same(t, "postings", fmt.Sprint(l.Postings()), "[{20 a 3 {1 0} {2 7} 10 1} {20 b 4 {1 0} {2 7} 10 2} {20 g 1000000000 {1 0} {2 7} 10 3} {20 a 1 {1 0} {2 1000000} 10 4} {20 a 3 {1 0} {2 7} 10 5} {20 b 5 {1 0} {2 7} 10 6} {20 b 6 {1 0} {2 7} 10 7} {20 a 7 {1 0} {2 7} 10 8} "+
		"{20 b 5 {2 7} {4 0} 3 6} {20 g 1000000000 {2 7} {4 0} 3 3} {20 a 7 {2 7} {4 0} 3 8} {20 b 4 {2 7} {4 0} 3 2}]")
}

func TestErrorsOfReceive(t *testing.T) {
	l := stocked(t)
	good := coming(7, 2, 40, "a", 3)
	spoilt := func(change func(x *api.Lot)) api.Lot {
		x := good
		change(&x)
		return x
	}
	var bad []api.Lot
	for _, n := range []int{math.MinInt, -1, 0, 1000000001, math.MaxInt} {
		bad = append(bad,
			spoilt(func(x *api.Lot) { x.Thing = n }), spoilt(func(x *api.Lot) { x.Layer = n }), spoilt(func(x *api.Lot) { x.Due = n }), spoilt(func(x *api.Lot) { x.Left = n }))
	}
	bad = append(bad, spoilt(func(x *api.Lot) { x.Thing = 1000001 }), spoilt(func(x *api.Lot) { x.Layer = 4 }), spoilt(func(x *api.Lot) { x.Due = 100002 }))
	unknown := spoilt(func(x *api.Lot) { x.Unit = "x" })
	for _, x := range bad {
		refused(t, l, api.ErrArg, receive(3, x), receive(3, good, good, x), receive(3, x, unknown))
		refused(t, l, api.ErrUnit, receive(3, unknown, x), receive(3, good, unknown, x))
		x.Unit = ""
		refused(t, l, api.ErrArg, receive(3, x))
	}
	refused(t, l, api.ErrUnit, receive(3, unknown), receive(3, coming(7, 2, 40, "", 3)))
	done(t, l, receive(3, coming(1, 1, 1, "a", 1), coming(1000000, 3, 100001, "a", 1000000000), coming(1, 1, 100000, "a", 1)))
}

// What an office dispatches is what another one receives.
func TestBetweenOffices(t *testing.T) {
	here := stocked(t, setTerm(0, "a", 1, 30), deposit(5, 7, 2, amount("a", 9), amount("g", 2)), take(6, 7, "a", 1, 3))
	out, e := here.Dispatch(8, 7, 5)
	same(t, "Dispatch", e, api.OK)
	there := stocked(t, receive(1, coming(1, 1, 99, "a", 1)))
	ids, e := there.Receive(10, out)
	same(t, "Receive", e, api.OK)
	equal(t, "ids", ids, []int{2, 3})
	same(t, "lots", fmt.Sprint(there.Lots(7)), "[{2 7 2 10 35 a 8 8 1 0} {3 7 2 10 100001 g 2 2 1 0}]")
	gives(t, here, arrived(11, 5), "2")
	same(t, "here", fmt.Sprint(here.Balances(outside, 11), here.Balances(personAccount(3), 11)), "[{a -1}] [{a 1}]")
}

// A bag whose lots are gone keeps their number of the bag.
func TestBagOfLots(t *testing.T) {
	l := stocked(t, receive(5, coming(7, 2, 50, "b", 3)))
	for _, c := range []call{lose(5, 7), takeBack(5, 7)} {
		done(t, l, c)
		same(t, "bag", l.Lots(7)[0].Bag, 0)
	}
	for _, c := range []call{dispatch(5, 7, 6), arrived(5, 6), advance(100)} {
		done(t, l, c)
		same(t, "bag", l.Lots(7)[0].Bag, 6)
	}
	same(t, "another ledger", fmt.Sprint(drawers.New().Lots(7)), "[]")
}
