package drawers_test

import (
	"fmt"
	"math"
	"testing"

	"restante/api"
	"restante/drawers"
)

// The fee is a twentieth, rounded up.
func TestFeesOfRefunds(t *testing.T) {
	for n, paid := range map[int]int{1: 0, 2: 1, 3: 2, 19: 18, 20: 19, 21: 19, 22: 20, 39: 37, 40: 38, 41: 38, 60: 57, 61: 57, 1000000000: 950000000, 999999999: 949999999, 999999981: 949999981, 999999980: 949999981} {
		l := stocked(t, receive(5, coming(7, 2, 5, "a", n)))
		sums, e := l.Refund(5, 7, 3)
		same(t, "Refund", e, api.OK)
		if paid == 0 {
			equal(t, "the sums", sums, nil)
			same(t, "postings", states(l, 7, 2), "0 4 0, [{5 a 1 {1 0} {2 7} 10 1} {5 a 1 {2 7} {4 0} 3 1}]")
			continue
		}
		equal(t, "the sums", sums, []api.Amount{amount("a", paid)})
		same(t, "postings", states(l, 7, 1), fmt.Sprintf("0 4 0, [{5 a %d {4 0} {3 3} 4 1}]", paid))
		same(t, "what the crown keeps", l.Balance(crown, "a", 5), n-paid)
	}
}

// Each lot has a fee of its own.
func TestRefundOfManyLots(t *testing.T) {
	l := stocked(t, receive(5, coming(7, 2, 9, "b", 21), coming(7, 1, 8, "a", 1), coming(7, 3, 8, "b", 21), coming(7, 1, 7, "a", 30), coming(8, 1, 7, "a", 30), coming(7, 3, 20, "g", 5), coming(7, 3, 8, "g", 1)), advance(10))
	refused(t, l, api.ErrArg, refund(10, 0, 1), refund(10, 1, 0), refund(10, 1000001, 1), refund(10, 9, 1000001), refund(10, math.MinInt, 1), refund(10, 7, math.MaxInt))
	refused(t, l, api.ErrNone, refund(10, 9, 1), refund(10, 1000000, 1000000))
	gives(t, l, refund(11, 7, 4), "[{a 28} {b 38}]")
	same(t, "lots", states(l, 7, 3), "0 4 0, 0 4 0, 0 4 0, 0 4 0, 5 1 0, 0 4 0, [{11 b 19 {4 0} {3 4} 4 1} {11 b 19 {4 0} {3 4} 4 3} {11 a 28 {4 0} {3 4} 4 4}]")
	refused(t, l, api.ErrNone, refund(11, 7, 4))
	gives(t, l, refund(20, 7, 5), "[{g 4}]") // forfeited on this day
	gives(t, l, refund(20, 8, 5), "[{a 28}]")
}

// A claim may come 1095 days after Due, whenever the lot was forfeited.
func TestLateRefunds(t *testing.T) {
	start := func() *drawers.Ledger {
		return stocked(t, receive(5, coming(7, 2, 10, "a", 10), coming(7, 1, 12, "b", 10), coming(7, 1, 11, "a", 20)), advance(20))
	}
	for day, want := range map[int]string{20: "[{a 28} {b 9}]", 1105: "[{a 28} {b 9}]", 1106: "[{a 19} {b 9}]", 1107: "[{b 9}]"} {
		gives(t, start(), refund(day, 7, 1), want)
	}
	refused(t, start(), api.ErrLate, refund(1108, 7, 1), refund(100000, 7, 1))
	l := start()
	gives(t, l, refund(1106, 7, 1), "[{a 19} {b 9}]")
	same(t, "lots", states(l, 7, 0), "10 3 0, 0 4 0, 0 4 0, []")
	refused(t, l, api.ErrLate, refund(1106, 7, 1))
	for due, want := range map[int]api.Errno{904: api.ErrLate, 905: api.OK} { // forfeited when it came
		l := stocked(t, receive(2000, coming(7, 2, due, "a", 10)))
		_, e := l.Refund(2000, 7, 1)
		same(t, fmt.Sprintf("Refund of a lot that was due on the day %d", due), e, want)
	}
	// one lot whose whole Left is the fee is paid with nothing
	l = stocked(t, receive(5, coming(7, 2, 5, "a", 1)))
	gives(t, l, refund(1100, 7, 1), "[]")
	refused(t, l, api.ErrNone, refund(1100, 7, 1))
}

func TestLoseAndRecover(t *testing.T) {
	l := stocked(t, receive(5, coming(7, 2, 50, "b", 3), coming(7, 1, 20, "a", 1), coming(8, 1, 15, "a", 2), coming(7, 3, 15, "b", 4), coming(7, 1, 15, "g", 5), coming(7, 1, 6, "g", 7)), advance(6))
	refused(t, l, api.ErrArg, lose(6, 0), lose(6, 1000001), lose(6, math.MinInt), lose(6, math.MaxInt), takeBack(6, 0), takeBack(6, -1), takeBack(6, 1000001))
	refused(t, l, api.ErrNone, lose(6, 9), lose(6, 1000000), takeBack(6, 7), takeBack(6, 1000000))
	gives(t, l, lose(7, 7), "[{a 1} {b 7} {g 5}]")
	same(t, "lots", states(l, 7, 4), "3 5 0, 1 5 0, 4 5 0, 5 5 0, 7 3 0, [{7 b 3 {2 7} {5 0} 6 1} {7 a 1 {2 7} {5 0} 6 2} {7 b 4 {2 7} {5 0} 6 4} {7 g 5 {2 7} {5 0} 6 5}]")
	refused(t, l, api.ErrNone, lose(7, 7), takeBack(7, 8), pay(7, 7, 1))
	gives(t, l, advance(15), "1") // what is lost is not forfeited
	same(t, "what is lost", fmt.Sprint(l.Balances(lost, 15), l.Balances(crown, 15)), "[{a 1} {b 7} {g 5}] [{a 2} {g 7}]")
	refused(t, l, api.ErrNone, lose(15, 8))
}

func TestRecoverForfeitsWhatIsDue(t *testing.T) {
	start := func() *drawers.Ledger {
		return stocked(t, receive(5, coming(7, 2, 50, "b", 3), coming(7, 1, 20, "a", 1), coming(8, 1, 15, "a", 2), coming(7, 3, 15, "b", 4), coming(7, 1, 15, "g", 5), coming(7, 1, 100001, "a", 7)), lose(6, 7), lose(6, 8))
	}
	recovered := "{%d b 3 {5 0} {2 7} 7 1} {%d a 1 {5 0} {2 7} 7 2} {%d b 4 {5 0} {2 7} 7 4} {%d g 5 {5 0} {2 7} 7 5} {%d a 7 {5 0} {2 7} 7 6}"
	for day, want := range map[int]string{
		14: "3 1 0, 1 1 0, 4 1 0, 5 1 0, 7 1 0, [" + fmt.Sprintf(recovered, 14, 14, 14, 14, 14) + "]",
		15: "3 1 0, 1 1 0, 4 3 0, 5 3 0, 7 1 0, [" + fmt.Sprintf(recovered, 15, 15, 15, 15, 15) + " {15 b 4 {2 7} {4 0} 3 4} {15 g 5 {2 7} {4 0} 3 5}]",
		30: "3 1 0, 1 3 0, 4 3 0, 5 3 0, 7 1 0, [" + fmt.Sprintf(recovered, 30, 30, 30, 30, 30) + " {30 b 4 {2 7} {4 0} 3 4} {30 g 5 {2 7} {4 0} 3 5} {30 a 1 {2 7} {4 0} 3 2}]",
	} {
		l := start()
		before := len(l.Postings())
		gives(t, l, takeBack(day, 7), "[{a 8} {b 7} {g 5}]")
		same(t, fmt.Sprintf("on the day %d", day), states(l, 7, len(l.Postings())-before), want)
		same(t, "the other thing", states(l, 8, 0), "2 5 0, []")
		same(t, "day", l.Day(), day)
	}
	l := start()
	done(t, l, takeBack(100000, 7))
	same(t, "never due", states(l, 7, 0), "3 3 0, 1 3 0, 4 3 0, 5 3 0, 7 1 0, []")
	refused(t, l, api.ErrNone, takeBack(100000, 7))
}

// A lot from which something was taken is lost, forfeited and refunded with what is left.
func TestLeftOfLots(t *testing.T) {
	l := stocked(t, receive(5, coming(7, 2, 50, "a", 30)), take(5, 7, "a", 5, 1))
	gives(t, l, lose(6, 7), "[{a 25}]")
	gives(t, l, takeBack(6, 7), "[{a 25}]")
	gives(t, l, convert(6, 1, "b", 3), "2 3")
	gives(t, l, dispatch(6, 7, 4), "[{1 7 2 5 50 a 30 23 6 4} {2 7 2 6 50 b 3 3 6 4}]")
	l = stocked(t, receive(5, coming(7, 2, 50, "a", 30)), take(5, 7, "a", 5, 1), advance(50))
	same(t, "lots", states(l, 7, 1), "25 3 0, [{50 a 25 {2 7} {4 0} 3 1}]")
	gives(t, l, refund(50, 7, 1), "[{a 23}]")
}
