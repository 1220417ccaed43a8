package drawers_test

import (
	"fmt"
	"math"
	"math/rand"
	"strings"
	"testing"

	"restante/api"
	"restante/drawers"
)

func pick[T any](r *rand.Rand, list ...T) T { return list[r.Intn(len(list))] }

// maybe returns mostly the first number, and sometimes one of the others.
func maybe(r *rand.Rand, n int, others ...int) int {
	if r.Intn(25) == 0 {
		return pick(r, others...)
	}
	return n
}

// chance chooses the arguments of operations.
type chance struct{ r *rand.Rand }

func (c chance) day(today int) int {
	return maybe(c.r, today+pick(c.r, 0, 0, 0, 0, 1, 1, 2, 4), today-1, -1, 100001, math.MinInt, math.MaxInt)
}

func (c chance) id(most int) int {
	return maybe(c.r, 1+c.r.Intn(most), 0, -1, 1000000, 1000001, math.MinInt, math.MaxInt)
}

func (c chance) layer() int { return maybe(c.r, 1+c.r.Intn(3), 0, 4, math.MinInt, math.MaxInt) }

func (c chance) unit() string {
	return pick(c.r, "aa", "aa", "aa", "bb", "bb", "bb", "cc", "cc", "dd", "gold")
}

func (c chance) n() int { return maybe(c.r, 1+c.r.Intn(60), 0, -1, math.MinInt, math.MaxInt) }

func (c chance) goods() []api.Amount {
	var goods []api.Amount
	for _, unit := range []string{"aa", "bb", "cc", "dd", "gold"} {
		if c.r.Intn(3) == 0 && (unit != "gold" || c.r.Intn(5) == 0) {
			goods = append(goods, amount(unit, maybe(c.r, c.n(), 1000000000, 1000000001)))
		}
	}
	if c.r.Intn(20) == 0 {
		c.r.Shuffle(len(goods), func(i, j int) { goods[i], goods[j] = goods[j], goods[i] })
	}
	return goods
}

func (c chance) coming(today int) []api.Lot {
	var lots []api.Lot
	for range c.r.Intn(5) {
		due := maybe(c.r, max(1, today+c.r.Intn(12)-6), 100001, 100002, 0, -1, math.MaxInt)
		lot := coming(c.id(3), c.layer(), due, c.unit(), c.n())
		if lot.Unit == "gold" && c.r.Intn(3) > 0 {
			lot.Unit = "bb"
		}
		lot.Id, lot.Day, lot.N, lot.State, lot.Bag = c.r.Intn(9), c.r.Intn(9)-3, c.r.Intn(9)-3, uint8(c.r.Intn(9)), c.r.Intn(9)-3
		lots = append(lots, lot)
	}
	return lots
}

// setting returns an operation that says something of units.
func (c chance) setting(today int) call {
	day := c.day(today)
	switch c.r.Intn(3) {
	case 0:
		return setUnit(day, pick(c.r, "aa", "bb", "cc", "dd", " a", "a "), uint8(maybe(c.r, 1+c.r.Intn(3), 0, 4, 255)))
	case 1:
		return setValue(day, c.unit(), maybe(c.r, pick(c.r, 1, 2, 3, 4, 6, 10, 12), 0, -1, 100000, 100001, math.MaxInt))
	}
	return setTerm(day, c.unit(), maybe(c.r, pick(c.r, 1, 1, 5, 10, 30), 0, 1000000000, 1000000001), maybe(c.r, 1+c.r.Intn(12), 0, 40000, 40001))
}

// moving returns an operation that moves money and goods.
func (c chance) moving(today, lots int) call {
	day, thing := c.day(today), c.id(3)
	switch c.r.Intn(14) {
	case 0:
		return advance(day)
	case 1, 2, 3:
		return deposit(day, thing, c.layer(), c.goods()...)
	case 4:
		return pay(day, thing, c.id(2))
	case 5:
		return take(day, thing, c.unit(), c.n(), c.id(2))
	case 6, 7:
		return convert(day, maybe(c.r, 1+c.r.Intn(lots+1), 0, -1, math.MinInt, math.MaxInt), c.unit(), c.n())
	case 8:
		return refund(day, thing, c.id(2))
	case 9:
		return lose(day, thing)
	case 10:
		return takeBack(day, thing)
	case 11:
		return dispatch(day, thing, c.id(2))
	case 12:
		return arrived(day, c.id(2))
	}
	return receive(day, c.coming(today)...)
}

func (c chance) operation(o *oracle) call {
	if c.r.Intn(6) == 0 {
		return c.setting(o.day)
	}
	return c.moving(o.day, len(o.lots))
}

// started are the first operations of a random ledger.
func started(first int) []call {
	return []call{
		setUnit(first, "aa", 1), setUnit(first, "bb", 2), setUnit(first, "cc", 3),
		setValue(first, "aa", 6), setValue(first, "bb", 4), setTerm(first, "aa", 1, 5), setTerm(first, "bb", 10, 9),
	}
}

// randomLedgers runs random operations on ledgers and on their oracles, and looks at both behind each of them.
func randomLedgers(t *testing.T, seed int64, ledgers, operations int, look func(l *drawers.Ledger, o *oracle, c call, e api.Errno)) {
	t.Helper()
	for i := range ledgers {
		c := chance{rand.New(rand.NewSource(seed + int64(i)))}
		l, o := drawers.New(), newOracle()
		for _, x := range started(pick(c.r, 0, 0, 7, 1200, 99970)) {
			both(t, l, o, x)
		}
		for range operations {
			x := c.operation(o)
			look(l, o, x, both(t, l, o, x))
		}
	}
}

// accepted returns operations that a ledger accepts, in order.
func accepted(t *testing.T, seed int64, operations int) []call {
	t.Helper()
	c := chance{rand.New(rand.NewSource(seed))}
	o := newOracle()
	calls := started(pick(c.r, 0, 7, 99980))
	done(t, o, calls...)
	for range operations {
		x := c.operation(o)
		if _, e := x.run(o); e == api.OK {
			calls = append(calls, x)
		}
	}
	return calls
}

func nameOf(c call) string { return c.what[:strings.IndexByte(c.what, '(')] }

func TestLedgersAgainstTheOracle(t *testing.T) {
	met := map[string]int{}
	randomLedgers(t, 100, 600, 80, func(l *drawers.Ledger, o *oracle, c call, e api.Errno) {
		same(t, "all behind "+c.what, said(l), said(o))
		met[fmt.Sprint(nameOf(c), " ", int(e))]++
	})
	for _, x := range []string{
		"SetUnit 0 1 4 6 7", "SetValue 0 1 7 60", "SetTerm 0 1 7 60", "Advance 0 1 7", "Deposit 0 1 6 7 60", "Pay 0 1 5 7", "Take 0 1 7 60 62",
		"Convert 0 1 5 7 60 62", "Refund 0 1 5 7", "Lose 0 1 5 7", "Recover 0 1 5 7", "Dispatch 0 1 5 7", "Arrived 0 1 5 7", "Receive 0 1 7 60",
	} {
		words := strings.Fields(x)
		for _, e := range words[1:] {
			if met[words[0]+" "+e] < 10 {
				t.Errorf("%s returns %s only %d times", words[0], e, met[words[0]+" "+e])
			}
		}
	}
}

func TestQuestionsAgainstTheOracle(t *testing.T) {
	randomLedgers(t, 9000, 60, 40, func(l *drawers.Ledger, o *oracle, c call, e api.Errno) {
		if e != api.OK || len(o.postings)%5 != 0 {
			return
		}
		days := []int{o.day - 4, o.day - 1, o.day, o.day + 3}
		same(t, "all behind "+c.what, saidOf(l, days...), saidOf(o, days...))
	})
}
