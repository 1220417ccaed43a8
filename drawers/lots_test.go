package drawers_test

import (
	"fmt"
	"math"
	"testing"

	"restante/api"
	"restante/drawers"
)

// stocked returns a ledger with the units a and b (worth 6 and 4) and g (a good), and no terms.
func stocked(t *testing.T, calls ...call) *drawers.Ledger {
	t.Helper()
	l := drawers.New()
	done(t, l, setUnit(0, "a", 1), setUnit(0, "b", 2), setUnit(0, "g", 3), setValue(0, "a", 6), setValue(0, "b", 4))
	done(t, l, calls...)
	return l
}

// states returns the Left, State and Bag of each lot of a thing, and its last postings.
func states(l *drawers.Ledger, thing, postings int) string {
	text := ""
	for _, lot := range l.Lots(thing) {
		text += fmt.Sprint(lot.Left, " ", lot.State, " ", lot.Bag, ", ")
	}
	all := l.Postings()
	return text + fmt.Sprint(all[len(all)-postings:])
}

func TestForfeitsInTheirOrder(t *testing.T) {
	lots := []api.Lot{coming(1, 1, 30, "a", 1), coming(2, 1, 20, "a", 2), coming(1, 1, 30, "b", 3), coming(2, 1, 20, "g", 4), coming(3, 1, 25, "a", 5), coming(3, 1, 31, "a", 6), coming(3, 1, 100001, "a", 7)}
	l := stocked(t, receive(3, lots...))
	gives(t, l, advance(19), "0")
	gives(t, l, advance(30), "5")
	same(t, "postings", fmt.Sprint(l.Postings()[7:]), "[{20 a 2 {2 2} {4 0} 3 2} {20 g 4 {2 2} {4 0} 3 4} {25 a 5 {2 3} {4 0} 3 5} {30 a 1 {2 1} {4 0} 3 1} {30 b 3 {2 1} {4 0} 3 3}]")
	same(t, "lots", fmt.Sprint(l.Lots(2), l.Lots(3)), "[{2 2 1 3 20 a 2 2 3 0} {4 2 1 3 20 g 4 4 3 0}] [{5 3 1 3 25 a 5 5 3 0} {6 3 1 3 31 a 6 6 1 0} {7 3 1 3 100001 a 7 7 1 0}]")
	gives(t, l, advance(30), "0")
	gives(t, l, advance(100000), "1")
	same(t, "the last posting", fmt.Sprint(l.Postings()[12]), "{31 a 6 {2 3} {4 0} 3 6}")
	same(t, "never due", fmt.Sprint(l.Lots(3)[2]), "{7 3 1 3 100001 a 7 7 1 0}")
}

// Every operation advances the ledger first, and its errors are those of the ledger that has been advanced.
func TestOperationsAdvance(t *testing.T) {
	forfeited := "{8 a 5 {2 1} {4 0} 3 1}"
	for _, c := range []call{
		setUnit(9, "x", 1), setValue(9, "a", 1), setTerm(9, "a", 1, 1), advance(9), deposit(9, 2, 1, amount("a", 1)), deposit(8, 2, 1), pay(9, 3, 1), take(9, 3, "a", 1, 1), convert(9, 2, "b", 2),
		refund(9, 1, 1), lose(9, 3), takeBack(9, 4), dispatch(9, 3, 2), arrived(9, 1), receive(9, coming(2, 1, 50, "a", 1)), receive(9),
	} {
		l := stocked(t, receive(3, coming(1, 1, 8, "a", 5), coming(3, 1, 50, "a", 5), coming(4, 1, 50, "a", 5), coming(5, 1, 50, "a", 5)), lose(3, 4), dispatch(3, 5, 1))
		before := len(l.Postings())
		done(t, l, c)
		same(t, c.what, fmt.Sprint(l.Postings()[before]), forfeited)
		same(t, "the day behind "+c.what, fmt.Sprint(l.Day()), c.what[len(nameOf(c))+1:][:1])
	}
	for want, calls := range map[api.Errno][]call{
		api.ErrNone:  {pay(8, 1, 1), convert(8, 1, "b", 1), lose(8, 1), dispatch(8, 1, 1)},
		api.ErrEmpty: {take(8, 1, "a", 1, 1)},
	} {
		l := stocked(t, receive(3, coming(1, 1, 8, "a", 5)))
		refused(t, l, want, calls...)
		same(t, "day", l.Day(), 3)
	}
}

func TestDepositsOfALayer(t *testing.T) {
	l := stocked(t)
	gives(t, l, deposit(0, 1, 1), "[]")
	gives(t, l, deposit(1, 1, 1), "[]")
	gives(t, l, deposit(1, 1, 1, amount("a", 1)), "[1]")
	refused(t, l, api.ErrTwice, deposit(2, 1, 1), deposit(2, 1, 1, amount("b", 1)))
	gives(t, l, deposit(2, 1, 2, amount("a", 1000000000), amount("b", 3), amount("g", 4)), "[2 3 4]")
	gives(t, l, deposit(2, 1000000, 3, amount("g", 4)), "[5]")
	same(t, "postings", fmt.Sprint(l.Postings()[1:]), "[{2 a 1000000000 {1 0} {2 1} 1 2} {2 b 3 {1 0} {2 1} 1 3} {2 g 4 {1 0} {2 1} 1 4} {2 g 4 {1 0} {2 1000000} 1 5}]")
	// whatever the state of the lot of the layer is
	for state, l := range inStates(t) {
		same(t, "the state", l.Lots(7)[0].State, state)
		refused(t, l, api.ErrTwice, deposit(8, 7, 2, amount("b", 1)), deposit(9, 7, 2))
		done(t, l, deposit(8, 7, 1, amount("b", 1)), deposit(8, 8, 2, amount("b", 1)))
	}
}

// inStates returns ledgers with a lot (in the layer 2 of the thing 7, due on the day 8) in each state.
func inStates(t *testing.T) map[uint8]*drawers.Ledger {
	t.Helper()
	ledgers := map[uint8]*drawers.Ledger{}
	for state, calls := range map[uint8][]call{
		api.LotOpen: {}, api.LotPaid: {pay(5, 7, 1)}, api.LotForfeit: {advance(8)}, api.LotRefunded: {refund(8, 7, 1)}, api.LotLost: {lose(5, 7)}, api.LotBag: {dispatch(5, 7, 1)}, api.LotGone: {dispatch(5, 7, 1), arrived(5, 1)},
	} {
		ledgers[state] = stocked(t, receive(5, coming(7, 2, 8, "a", 40)))
		done(t, ledgers[state], calls...)
	}
	return ledgers
}

func TestDepositsOfManyGoods(t *testing.T) {
	l := drawers.New()
	var goods []api.Amount
	for _, unit := range []string{"a", "a a", "a-", "a0", "aa", "b", "c"} { // in the order of their bytes
		done(t, l, setUnit(0, unit, 3))
		goods = append(goods, amount(unit, 1))
	}
	refused(t, l, api.ErrLimit, deposit(0, 1, 1, goods...), deposit(0, 1, 1, append(goods[:6:6], amount("", -1))...))
	refused(t, l, api.ErrArg, deposit(0, 0, 1, goods...), deposit(0, 1000001, 1, goods...), deposit(0, 1, 0, goods...), deposit(0, 1, 4, goods...))
	for i := range 6 {
		for _, n := range []int{0, -1, math.MinInt, 1000000001, math.MaxInt} {
			wrong := append([]api.Amount(nil), goods[:6]...)
			wrong[i].N = n
			refused(t, l, api.ErrArg, deposit(0, 1, 1, wrong...))
			wrong[i].Unit = "zz"
			refused(t, l, api.ErrArg, deposit(0, 1, 1, wrong...))
		}
	}
	refused(t, l, api.ErrArg, deposit(0, 1, 1, amount("b", 1), amount("b", 1)), deposit(0, 1, 1, amount("b", 1), amount("a", 1)), deposit(0, 1, 1, amount("aa", 1), amount("a-", 1)), deposit(0, 1, 1, amount("b", 1), amount("", 1)))
	// the first invalid element decides
	refused(t, l, api.ErrUnit, deposit(0, 1, 1, amount("x", 1)), deposit(0, 1, 1, amount("", 1)), deposit(0, 1, 1, amount("a", 1), amount("bb", 1), amount("c", 0)), deposit(0, 1, 1, amount("bb", 1), amount("a", 1)))
	refused(t, l, api.ErrArg, deposit(0, 1, 1, amount("a", 0), amount("bb", 1)), deposit(0, 1, 1, amount("b", 1), amount("a", 1), amount("x", 1)))
	gives(t, l, deposit(0, 1, 1, goods[:6]...), "[1 2 3 4 5 6]")
	refused(t, l, api.ErrUnit, deposit(0, 1, 1, amount("x", 1)))
	refused(t, l, api.ErrTwice, deposit(0, 1, 1, goods[:6]...))
}

func TestPay(t *testing.T) {
	l := stocked(t, receive(1, coming(1, 1, 50, "b", 3), coming(2, 1, 50, "b", 9), coming(1, 2, 40, "a", 4), coming(1, 1, 60, "b", 5), coming(1, 1, 5, "g", 1)), advance(6))
	refused(t, l, api.ErrArg, pay(6, 0, 1), pay(6, 1, 0), pay(6, 1000001, 1), pay(6, 1, 1000001), pay(6, math.MinInt, 1), pay(6, 1, math.MaxInt))
	refused(t, l, api.ErrNone, pay(6, 3, 1), pay(6, 1000000, 1000000))
	refused(t, l, api.ErrTime, pay(5, 0, 0))
	gives(t, l, pay(7, 1, 1000000), "[{a 4} {b 8}]")
	same(t, "lots", states(l, 1, 3), "0 2 0, 0 2 0, 0 2 0, 1 3 0, [{7 b 3 {2 1} {3 1000000} 2 1} {7 a 4 {2 1} {3 1000000} 2 3} {7 b 5 {2 1} {3 1000000} 2 4}]")
	same(t, "the other thing", states(l, 2, 0), "9 1 0, []")
	refused(t, l, api.ErrNone, pay(7, 1, 1))
}

func TestTake(t *testing.T) {
	start := func() *drawers.Ledger {
		return stocked(t, receive(1, coming(1, 1, 60, "a", 3), coming(1, 1, 50, "b", 9), coming(1, 2, 40, "a", 4), coming(1, 1, 60, "a", 5), coming(2, 1, 40, "a", 7), coming(1, 3, 40, "a", 2)))
	}
	l := start()
	refused(t, l, api.ErrArg, take(1, 0, "", 1, 1), take(1, 1, "", 1, 0), take(1, 1, "", 0, 1), take(1, 1, "a", -1, 1), take(1, 1, "a", math.MinInt, 1), take(1, 1000001, "a", 1, 1), take(1, 1, "a", 1, 1000001))
	refused(t, l, api.ErrUnit, take(1, 1, "", 1, 1), take(1, 9, "x", math.MaxInt, 1))
	refused(t, l, api.ErrEmpty, take(1, 1, "a", 15, 1), take(1, 1, "a", math.MaxInt, 1), take(1, 3, "a", 1, 1), take(1, 1, "g", 1, 1), take(1, 2, "b", 1, 1))
	for n, want := range map[int]string{
		1:  "3 1 0, 9 1 0, 3 1 0, 5 1 0, 2 1 0, [{2 a 1 {2 1} {3 8} 2 3}]",
		4:  "3 1 0, 9 1 0, 0 2 0, 5 1 0, 2 1 0, [{2 a 4 {2 1} {3 8} 2 3}]",
		5:  "3 1 0, 9 1 0, 0 2 0, 5 1 0, 1 1 0, [{2 a 4 {2 1} {3 8} 2 3} {2 a 1 {2 1} {3 8} 2 6}]",
		8:  "1 1 0, 9 1 0, 0 2 0, 5 1 0, 0 2 0, [{2 a 4 {2 1} {3 8} 2 3} {2 a 2 {2 1} {3 8} 2 6} {2 a 2 {2 1} {3 8} 2 1}]",
		14: "0 2 0, 9 1 0, 0 2 0, 0 2 0, 0 2 0, [{2 a 4 {2 1} {3 8} 2 3} {2 a 2 {2 1} {3 8} 2 6} {2 a 3 {2 1} {3 8} 2 1} {2 a 5 {2 1} {3 8} 2 4}]",
	} {
		l := start()
		done(t, l, take(2, 1, "a", n, 8))
		same(t, fmt.Sprintf("after %d", n), states(l, 1, len(l.Postings())-6), want)
		same(t, "the other thing", states(l, 2, 0), "7 1 0, []")
	}
}

func TestConvert(t *testing.T) {
	for _, x := range []struct {
		a, b, left, n int
		want          string
	}{
		{240, 160, 7, 5, "4 6"}, {240, 160, 7, 7, "6 9"}, {240, 160, 7, 2, "2 3"}, {1, 1, 5, 5, "5 5"}, {2, 1, 5, 5, "5 10"}, {1, 2, 5, 5, "4 2"}, {1, 2, 5, 2, "2 1"}, {3, 7, 100, 100, "98 42"}, {100000, 99999, 99999, 99999, "99999 100000"},
		{100000, 1, 20000, 20000, "10000 1000000000"}, {100000, 1, 10000, 10000, "10000 1000000000"}, {100000, 1, 10001, 10001, "10000 1000000000"}, {100000, 1, 9999, 9999, "9999 999900000"}, {1, 100000, 1000000000, 1000000000, "1000000000 10000"}, {100000, 3, 100000, 100000, "30000 1000000000"}, {99999, 1, 10001, 10001, "10000 999990000"}, {99999, 2, 20001, 20001, "20000 999990000"}, {3, 2, 1000000000, 1000000000, "666666666 999999999"}, {1, 1, 1000000000, 1000000000, "1000000000 1000000000"},
	} {
		l := drawers.New()
		done(t, l, setUnit(0, "a", 1), setUnit(0, "b", 2), setValue(0, "a", x.a), setValue(0, "b", x.b), setTerm(0, "a", 1, 30), deposit(1, 5, 3, amount("a", x.left)))
		gives(t, l, convert(2, 1, "b", x.n), x.want)
		var m, k int
		fmt.Sscan(x.want, &m, &k)
		state := 1
		if m == x.left {
			state = 2
		}
		same(t, "lots", fmt.Sprint(l.Lots(5)), fmt.Sprintf("[{1 5 3 1 31 a %d %d %d 0} {2 5 3 2 31 b %d %d 1 0}]", x.left, x.left-m, state, k, k))
		same(t, "postings", fmt.Sprint(l.Postings()[1:]), fmt.Sprintf("[{2 a %d {2 5} {6 0} 5 1} {2 b %d {6 0} {2 5} 5 2}]", m, k))
	}
}

func TestErrorsOfConvert(t *testing.T) {
	l := stocked(t, setUnit(0, "note", 2), setUnit(0, "c", 1), receive(1, coming(1, 1, 60, "a", 4), coming(1, 1, 50, "b", 5), coming(1, 1, 50, "c", 9), coming(1, 1, 50, "g", 9), coming(1, 1, 8, "a", 9)), take(1, 1, "b", 2, 1))
	for _, lot := range []int{0, -1, 6, math.MinInt, math.MaxInt} {
		refused(t, l, api.ErrNone, convert(1, lot, "x", 0))
	}
	refused(t, l, api.ErrUnit, convert(1, 1, "x", 0), convert(1, 1, "", 1), convert(1, 1, "a", 1), convert(1, 1, "g", 1), convert(1, 1, "c", 1), convert(1, 1, "note", 1), convert(1, 3, "a", 1), convert(1, 4, "a", 1), convert(1, 4, "g", 1), convert(1, 3, "c", 0))
	refused(t, l, api.ErrArg, convert(1, 1, "b", 0), convert(1, 1, "b", -1), convert(1, 1, "b", math.MinInt))
	refused(t, l, api.ErrEmpty, convert(1, 1, "b", 1), convert(1, 1, "b", 5), convert(1, 1, "b", math.MaxInt), convert(1, 2, "a", 2), convert(1, 2, "a", 4))
	refused(t, l, api.ErrNone, convert(8, 5, "b", 2)) // forfeited by then
	done(t, l, setValue(2, "c", 1))
	gives(t, l, convert(2, 1, "c", 3), "3 18")
	gives(t, l, convert(3, 2, "a", 3), "3 2")
	refused(t, l, api.ErrNone, convert(3, 2, "a", 1)) // nothing was left
	// a value counts from its day on
	l = stocked(t, deposit(1, 1, 1, amount("a", 10)), setValue(1, "b", 3), setValue(2, "b", 5))
	gives(t, l, convert(2, 1, "b", 6), "5 6")
	l = stocked(t, deposit(1, 1, 1, amount("a", 10)), setValue(1, "b", 3))
	gives(t, l, convert(2, 1, "b", 6), "6 12")
}

// Each operation finds the lots of one state alone.
func TestOperationsInStates(t *testing.T) {
	for state, day := range map[uint8]int{api.LotOpen: 5, api.LotPaid: 5, api.LotForfeit: 8, api.LotRefunded: 8, api.LotLost: 5, api.LotBag: 5, api.LotGone: 5} {
		for _, x := range []struct {
			c    call
			in   uint8
			none api.Errno
		}{
			{pay(day, 7, 1), api.LotOpen, api.ErrNone}, {take(day, 7, "a", 1, 1), api.LotOpen, api.ErrEmpty}, {convert(day, 1, "b", 2), api.LotOpen, api.ErrNone},
			{lose(day, 7), api.LotOpen, api.ErrNone}, {dispatch(day, 7, 1), api.LotOpen, api.ErrNone}, {refund(day, 7, 1), api.LotForfeit, api.ErrNone}, {takeBack(day, 7), api.LotLost, api.ErrNone}, {arrived(day, 1), api.LotBag, api.ErrNone},
		} {
			l := inStates(t)[state]
			if x.in == state {
				done(t, l, x.c)
			} else {
				refused(t, l, x.none, x.c)
			}
		}
	}
}
