package drawers_test

import (
	"math"
	"testing"

	"restante/api"
	"restante/drawers"
)

// crossed are lists of arguments, good ones and bad ones, of which all combinations are tried.
var (
	crossedDays   = []int{-1, 11, 12, 13, 100001}
	crossedThings = []int{0, 1, 2, 3, 4, 1000001}
	crossedIds    = []int{-1, 1, 8, 1000000, 1000001}
	crossedUnits  = []string{"", "a", "b", "c", "g", "x", "X"}
	crossedN      = []int{math.MinInt, 0, 1, 3, 12, 1000000000, 1000000001, math.MaxInt}
)

// crossedCalls are all combinations of arguments of the operations on a day.
func crossedCalls(day int) []call {
	calls := []call{advance(day)}
	for _, unit := range crossedUnits {
		for _, kind := range []uint8{0, 1, 2, 3, 4, 255} {
			calls = append(calls, setUnit(day, unit, kind), setUnit(day, unit+"d", kind))
		}
		for _, n := range crossedN {
			calls = append(calls, setValue(day, unit, n))
			for _, m := range crossedN {
				calls = append(calls, setTerm(day, unit, n, m))
			}
			for _, id := range crossedThings {
				calls = append(calls, convert(day, id, unit, n), take(day, id, unit, n, 1), take(day, id, unit, n, 0))
			}
		}
	}
	for _, thing := range crossedThings {
		calls = append(calls, lose(day, thing), takeBack(day, thing))
		for _, id := range crossedIds {
			calls = append(calls, pay(day, thing, id), refund(day, thing, id), dispatch(day, thing, id))
		}
	}
	for _, id := range crossedIds {
		calls = append(calls, arrived(day, id))
	}
	return append(calls, crossedGoods(day)...)
}

// crossedGoods are deposits and lots from other offices.
func crossedGoods(day int) []call {
	var calls []call
	for _, thing := range crossedThings {
		for _, layer := range []int{0, 1, 2, 3, 4} {
			for _, n := range []int{0, 1, 1000000000, 1000000001} {
				for _, unit := range []string{"", "a", "x"} {
					calls = append(calls,
						deposit(day, thing, layer, amount(unit, n)), deposit(day, thing, layer, amount("a", n), amount(unit, 1)), deposit(day, thing, layer, amount("b", 1), amount(unit, n), amount("a", 1)),
						deposit(day, thing, layer, amount("a", n), amount("b", 1), amount("c", 1), amount("g", 1), amount("x", n), amount("y", 1), amount("z", 1)))
					for _, due := range []int{0, 1, 13, 100001, 100002} {
						calls = append(calls, receive(day, coming(2, 1, 50, "a", 3), coming(thing, layer, due, unit, n)))
					}
				}
			}
		}
		calls = append(calls, deposit(day, thing, 1), deposit(day, thing, 4))
	}
	return calls
}

// prepared are operations behind which lots are in all states; some lots are due on the day 13.
func prepared() []call {
	return []call{
		setUnit(0, "a", 1), setUnit(0, "b", 2), setUnit(0, "c", 1), setUnit(0, "g", 3), setValue(0, "a", 6), setValue(0, "b", 4), setTerm(3, "a", 2, 10),
		receive(4, coming(1, 1, 13, "a", 12), coming(2, 1, 60, "b", 5), coming(3, 1, 9, "a", 21), coming(4, 1, 10, "g", 2), coming(4, 1, 90, "b", 3), coming(3, 2, 70, "a", 4)),
		convert(5, 1, "b", 4), lose(6, 4), dispatch(7, 3, 8), receive(11, coming(3, 1, 5, "b", 40), coming(1, 3, 13, "c", 7)), advance(12),
	}
}

// Every combination of arguments has the result and the error of the oracle, which checks in the order of the chapter.
func TestErrorsInTheirOrder(t *testing.T) {
	met := map[api.Errno]int{}
	for _, day := range crossedDays {
		for _, c := range crossedCalls(day) {
			l, o := drawers.New(), newOracle()
			for _, x := range prepared() {
				both(t, l, o, x)
			}
			e := both(t, l, o, c)
			met[e]++
			same(t, "all behind "+c.what, said(l), said(o))
		}
	}
	for _, e := range []api.Errno{api.OK, api.ErrArg, api.ErrLimit, api.ErrForm, api.ErrNone, api.ErrTwice, api.ErrTime, api.ErrUnit, api.ErrEmpty} {
		if met[e] < 20 {
			t.Errorf("only %d calls with the error %d", met[e], e)
		}
	}
}
