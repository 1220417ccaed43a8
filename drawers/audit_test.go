package drawers_test

import (
	"fmt"
	"math"
	"math/rand"
	"slices"
	"testing"

	"restante/api"
	"restante/drawers"
)

// audited checks Audit of a list against its oracle, and returns the error.
func audited(t *testing.T, list []api.Posting) api.Errno {
	t.Helper()
	lines, e := drawers.Audit(list)
	wanted, f := auditOf(list)
	same(t, fmt.Sprintf("the error of Audit of %v", list), e, f)
	same(t, fmt.Sprintf("Audit of %v", list), fmt.Sprint(lines), fmt.Sprint(wanted))
	return e
}

var numbers = []int{math.MinInt, -1, 0, 1, 2, 3, 12, 2000, 2001, 100000, 100001, 1000000, 1000001, 1000000000, 1000000001, math.MaxInt}

// Each field of each posting gets each value; the table of reasons is tried with all kinds of accounts.
func TestAuditOfFields(t *testing.T) {
	all := busy(t).Postings()
	same(t, "Audit", audited(t, all), api.OK)
	met := map[api.Errno]int{}
	for i := range all {
		list := slices.Clone(all)
		x := &list[i]
		for _, field := range []*int{&x.Day, &x.N, &x.Lot, &x.From.Id, &x.To.Id} {
			before := *field
			for _, n := range numbers {
				*field = n
				met[audited(t, list)]++
			}
			*field = before
		}
		for kind := range 10 {
			for _, field := range []*uint8{&x.From.Kind, &x.To.Kind, &x.Why} {
				before := *field
				*field = uint8(kind)
				met[audited(t, list)]++
				*field = before
			}
		}
		for _, name := range append([]string{"a", "b", "zzz"}, badNames...) {
			list[i].Unit = name
			met[audited(t, list)]++
		}
	}
	for _, e := range []api.Errno{api.OK, api.ErrArg, api.ErrTime, api.ErrEmpty} {
		if met[e] < 50 {
			t.Errorf("only %d lists with the error %d", met[e], e)
		}
	}
}

func TestAuditOfReasons(t *testing.T) {
	accepted := 0
	for why := range 13 {
		for _, from := range accountsOf(0, 5) {
			for _, to := range accountsOf(0, 5) {
				// from gets what it needs
				list := []api.Posting{{Unit: "a", N: 9, From: outside, To: thingAccount(5), Why: api.WhyReceive, Lot: 1}}
				switch from.Kind {
				case api.AcCrown:
					list = append(list, api.Posting{Unit: "a", N: 9, From: thingAccount(5), To: crown, Why: api.WhyForfeit, Lot: 1})
				case api.AcLost:
					list = append(list, api.Posting{Unit: "a", N: 9, From: thingAccount(5), To: lost, Why: api.WhyLose, Lot: 1})
				case api.AcBag:
					list = append(list, api.Posting{Unit: "a", N: 9, From: thingAccount(5), To: bagAccount(5), Why: api.WhyDispatch, Lot: 1})
				}
				list = append(list, api.Posting{Unit: "a", N: 9, From: from, To: to, Why: uint8(why), Lot: 1})
				if audited(t, list) == api.OK {
					accepted++
				}
			}
		}
	}
	same(t, "reasons", accepted, 11)
}

func TestErrorsOfAudit(t *testing.T) {
	move := func(day, n int, from, to api.Account, why uint8) api.Posting {
		return api.Posting{Day: day, Unit: "a", N: n, From: from, To: to, Why: why, Lot: 1}
	}
	in := move(5, 9, outside, thingAccount(1), api.WhyDeposit)
	for _, x := range []struct {
		want api.Errno
		list []api.Posting
	}{
		{api.OK, nil},
		{api.OK, []api.Posting{in, move(5, 9, thingAccount(1), personAccount(1), api.WhyPay)}},
		{api.ErrEmpty, []api.Posting{in, move(5, 10, thingAccount(1), personAccount(1), api.WhyPay)}},
		{api.ErrEmpty, []api.Posting{in, move(5, 9, thingAccount(2), personAccount(1), api.WhyPay)}},
		{api.ErrEmpty, []api.Posting{in, move(5, 5, thingAccount(1), personAccount(1), api.WhyPay), move(6, 5, thingAccount(1), personAccount(1), api.WhyPay)}},
		{api.ErrEmpty, []api.Posting{move(5, 1, crown, personAccount(1), api.WhyRefund)}},
		{api.ErrEmpty, []api.Posting{move(5, 1, lost, thingAccount(1), api.WhyRecover)}},
		{api.ErrEmpty, []api.Posting{move(5, 1, bagAccount(1), outside, api.WhyArrive)}},
		{api.OK, []api.Posting{move(5, 1, bank, thingAccount(1), api.WhyConvert)}},
		{api.ErrTime, []api.Posting{in, move(4, 10, thingAccount(1), personAccount(1), api.WhyPay)}},
		{api.ErrArg, []api.Posting{in, move(4, 0, thingAccount(1), personAccount(1), api.WhyPay)}},
		// the first posting with an error decides
		{api.ErrEmpty, []api.Posting{in, move(5, 10, thingAccount(1), personAccount(1), api.WhyPay), {}}},
		{api.ErrTime, []api.Posting{in, move(4, 1, thingAccount(1), personAccount(1), api.WhyPay), move(5, 10, thingAccount(1), personAccount(1), api.WhyPay)}},
		{api.ErrArg, []api.Posting{in, {}, move(4, 1, thingAccount(1), personAccount(1), api.WhyPay)}},
		// what comes later does not help
		{api.ErrEmpty, []api.Posting{move(5, 1, thingAccount(1), lost, api.WhyLose), in}},
	} {
		same(t, fmt.Sprint(x.list), audited(t, x.list), x.want)
	}
	// another unit does not help either
	other := in
	other.Unit = "b"
	same(t, "another unit", audited(t, []api.Posting{other, move(5, 1, thingAccount(1), lost, api.WhyLose)}), api.ErrEmpty)
}

func TestAuditUpToTheLimit(t *testing.T) {
	in := api.Posting{Unit: "a", N: 1000000000, From: outside, To: thingAccount(1), Why: api.WhyDeposit, Lot: 2000}
	list := slices.Repeat([]api.Posting{in}, 20000)
	lines, e := drawers.Audit(list)
	same(t, "20000 postings", fmt.Sprint(lines, e), "[{{1 0} a -20000000000000} {{2 1} a 20000000000000}] 0")
	for _, x := range []api.Posting{in, {}} {
		lines, e = drawers.Audit(append(list, x))
		same(t, "20001 postings", fmt.Sprint(lines, e), fmt.Sprint("[] ", api.ErrLimit))
	}
	list[0].N = 0
	lines, e = drawers.Audit(list)
	same(t, "the first posting", fmt.Sprint(lines, e), fmt.Sprint("[] ", api.ErrArg))
}

// Postings of random ledgers, of which some are spoilt.
func TestAuditOfSpoiltLists(t *testing.T) {
	r := rand.New(rand.NewSource(3))
	met := map[api.Errno]int{}
	randomLedgers(t, 500, 100, 50, func(l *drawers.Ledger, o *oracle, c call, e api.Errno) {
		list := l.Postings()
		if e != api.OK || len(list) == 0 {
			return
		}
		x := &list[r.Intn(len(list))]
		switch r.Intn(7) {
		case 0:
			x.Day += pick(r, -3, -1, 1, 3)
		case 1:
			x.N += pick(r, -5, -1, 1, 5)
		case 2:
			x.From, x.To = x.To, x.From
		case 3:
			x.From = pick(r, list...).From
		case 4:
			x.To = pick(r, list...).To
		case 5:
			x.Why = pick(r, list...).Why
		case 6:
			x.Unit = pick(r, list...).Unit
		}
		met[audited(t, list)]++
	})
	for _, e := range []api.Errno{api.OK, api.ErrArg, api.ErrTime, api.ErrEmpty} {
		if met[e] < 50 {
			t.Errorf("only %d lists with the error %d", met[e], e)
		}
	}
}
