package drawers_test

import (
	"fmt"
	"math"
	"slices"
	"testing"

	"restante/api"
	"restante/drawers"
)

// busy returns a ledger of the day 12 with lots in many states, and with values that change.
func busy(t *testing.T) *drawers.Ledger {
	t.Helper()
	return stocked(t,
		receive(2, coming(1, 1, 10, "a", 10), coming(1, 2, 60, "b", 20), coming(2, 1, 60, "a", 30), coming(3, 1, 61, "g", 4), coming(3, 1, 40, "a", 50)),
		convert(3, 1, "b", 4), setValue(4, "b", 5), take(4, 1, "b", 7, 1), dispatch(5, 2, 8), lose(6, 3), setValue(9, "a", 7), arrived(11, 8), takeBack(11, 3), refund(12, 1, 2),
	)
}

func TestBalancesOfDays(t *testing.T) {
	l := busy(t)
	for _, x := range []struct {
		a         api.Account
		day       int
		want      string
		worth, as int // as is how many of the unit a
	}{
		{thingAccount(1), 1, "[]", 0, 0},
		{thingAccount(1), 2, "[{a 10} {b 20}]", 140, 10},
		{thingAccount(1), 3, "[{a 6} {b 26}]", 140, 6},
		{thingAccount(1), 4, "[{a 6} {b 19}]", 131, 6},
		{thingAccount(1), 9, "[{a 6} {b 19}]", 137, 6},
		{thingAccount(1), 10, "[{b 19}]", 95, 0},
		{thingAccount(1), 100000, "[{b 19}]", 95, 0},
		{thingAccount(1), math.MaxInt, "[{b 19}]", 95, 0},
		{thingAccount(1), -1, "[]", 0, 0},
		{thingAccount(1), math.MinInt, "[]", 0, 0},
		{bank, 3, "[{a 4} {b -6}]", 0, 4},
		{bank, 4, "[{a 4} {b -6}]", -6, 4},
		{crown, 11, "[{a 6}]", 42, 6},
		{crown, 12, "[{a 1}]", 7, 1},
		{personAccount(1), 12, "[{b 7}]", 35, 0},
		{personAccount(2), 12, "[{a 5}]", 35, 5},
		{bagAccount(8), 5, "[{a 30}]", 180, 30},
		{bagAccount(8), 11, "[]", 0, 0},
		{lost, 6, "[{a 50} {g 4}]", 300, 50},
		{outside, 12, "[{a -60} {b -20} {g -4}]", -520, -60},
		{api.Account{Kind: 4, Id: 1}, 12, "[]", 0, 0},
		{api.Account{Kind: 2}, 12, "[]", 0, 0},
		{api.Account{Kind: 9, Id: 1}, 12, "[]", 0, 0},
		{api.Account{}, 12, "[]", 0, 0},
	} {
		at := fmt.Sprintf("%v on the day %d", x.a, x.day)
		same(t, "Balances of "+at, fmt.Sprint(l.Balances(x.a, x.day)), x.want)
		same(t, "Worth of "+at, l.Worth(x.a, x.day), x.worth)
		same(t, "Balance of "+at, l.Balance(x.a, "a", x.day), x.as)
		same(t, "Balance without a unit of "+at, l.Balance(x.a, "x", x.day)+l.Balance(x.a, "", x.day), 0)
	}
	same(t, "Trial", fmt.Sprint(l.Trial(10)), "[{{1 0} a -90} {{1 0} b -20} {{1 0} g -4} {{2 1} b 19} {{3 1} b 7} {{4 0} a 6} {{5 0} a 50} {{5 0} g 4} {{6 0} a 4} {{6 0} b -6} {{7 8} a 30}]")
	same(t, "Trial before", len(l.Trial(1)), 0)
}

func TestStatements(t *testing.T) {
	l := busy(t)
	for _, x := range []struct {
		a           api.Account
		unit        string
		from, until int
		want        string
	}{
		{thingAccount(1), "a", 0, 100000, "[{0 10} {5 6} {12 0}]"},
		{thingAccount(1), "a", 2, 2, "[{0 10}]"},
		{thingAccount(1), "a", 3, 10, "[{5 6} {12 0}]"},
		{thingAccount(1), "a", 4, 9, "[]"},
		{thingAccount(1), "a", 10, 3, "[]"},
		{thingAccount(1), "a", math.MinInt, math.MaxInt, "[{0 10} {5 6} {12 0}]"},
		{thingAccount(1), "a", math.MaxInt, math.MinInt, "[]"},
		{thingAccount(1), "x", 0, 100000, "[]"},
		{thingAccount(7), "a", 0, 100000, "[]"},
		{api.Account{Kind: 1, Id: 5}, "a", 0, 100000, "[]"},
		{bank, "b", 0, 100000, "[{6 -6}]"},
		{crown, "a", 12, 12, "[{16 1}]"},
	} {
		same(t, fmt.Sprintf("Statement %v", x), fmt.Sprint(l.Statement(x.a, x.unit, x.from, x.until)), x.want)
	}
}

func TestDueQuestion(t *testing.T) {
	l := stocked(t, receive(5, coming(1, 1, 30, "a", 1), coming(2, 1, 20, "a", 2), coming(1, 1, 30, "b", 3), coming(2, 1, 20, "g", 4), coming(3, 1, 10, "a", 5), coming(4, 1, 10, "a", 6), coming(5, 1, 100001, "a", 7)), lose(5, 4))
	ids := func(until int) string {
		text := ""
		for _, lot := range l.Due(until) {
			same(t, fmt.Sprintf("Lots has %v", lot), slices.Contains(l.Lots(lot.Thing), lot), true)
			text += fmt.Sprint(lot.Id)
		}
		return text
	}
	for until, want := range map[int]string{math.MinInt: "", -1: "", 5: "", 9: "", 10: "5", 19: "5", 20: "524", 30: "52413", 100000: "52413", 100001: "524137", math.MaxInt: "524137"} {
		same(t, fmt.Sprintf("Due(%d)", until), ids(until), want)
	}
	done(t, l, advance(25))
	same(t, "Due(100000)", ids(100000), "13")
	same(t, "Due(24)", ids(24), "")
}

func TestNilLedger(t *testing.T) {
	var l *drawers.Ledger
	for _, c := range []call{
		setUnit(-1, "", 0), setValue(0, "a", 1), setTerm(0, "a", 1, 1), advance(-1), advance(0), deposit(0, 1, 1), pay(0, 1, 1), take(0, 1, "a", 1, 1), convert(0, 1, "a", 1),
		refund(0, 1, 1), lose(0, 1), takeBack(0, 1), dispatch(0, 1, 1), arrived(0, 1), receive(0), receive(100001, api.Lot{}),
	} {
		refused(t, l, api.ErrNil, c)
	}
	same(t, "all questions", saidOf(l, -1, 0, 5, math.MaxInt), saidOf(newOracle(), -1, 0, 5, math.MaxInt))
}

func TestThingsWithoutLots(t *testing.T) {
	l := busy(t)
	for _, thing := range []int{math.MinInt, -1, 0, 4, 1000001, math.MaxInt} {
		equal(t, "Lots", l.Lots(thing), nil)
	}
}
