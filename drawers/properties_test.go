package drawers_test

import (
	"fmt"
	"slices"
	"testing"

	"restante/api"
	"restante/drawers"
)

const lastDay = 100000

// P6.2: double entry.
func TestDoubleEntry(t *testing.T) {
	randomLedgers(t, 2000, 100, 60, func(l *drawers.Ledger, o *oracle, c call, e api.Errno) {
		if e != api.OK {
			return
		}
		for _, day := range []int{l.Day() - 2, l.Day(), lastDay} {
			sums := map[string]int{}
			for _, line := range l.Trial(day) {
				sums[line.Unit] += line.N
				if line.N < 0 && line.Account.Kind != api.AcOutside && line.Account.Kind != api.AcBank {
					t.Fatalf("below zero: %v", line)
				}
			}
			for unit, n := range sums {
				same(t, "the sum of "+unit, n, 0)
			}
		}
		left := map[api.TrialLine]int{} // by account and unit
		for thing := range 5 {
			for _, lot := range l.Lots(thing) {
				a := map[uint8]api.Account{api.LotOpen: thingAccount(thing), api.LotBag: bagAccount(lot.Bag), api.LotLost: lost}[lot.State]
				left[api.TrialLine{Account: a, Unit: lot.Unit}] += lot.Left
				ended := lot.State == api.LotPaid || lot.State == api.LotRefunded || lot.State == api.LotGone
				same(t, "nothing left", ended, lot.Left == 0)
				same(t, "a bag", lot.State == api.LotBag || lot.State == api.LotGone, lot.Bag != 0)
				same(t, "due", lot.State == api.LotOpen && lot.Due <= l.Day(), false)
			}
		}
		for _, a := range append(accountsOf(1, 2, 3), lost) {
			for _, unit := range []string{"aa", "bb", "cc", "dd"} {
				if a.Kind == api.AcThing || a.Kind == api.AcBag || a.Kind == api.AcLost {
					same(t, fmt.Sprint("what is in ", a), l.Balance(a, unit, lastDay), left[api.TrialLine{Account: a, Unit: unit}])
				}
			}
		}
	})
}

// P6.3: conversions change the Worth of no account.
func TestConversionsKeepTheWorth(t *testing.T) {
	conversions := 0
	randomLedgers(t, 3000, 60, 40, func(l *drawers.Ledger, o *oracle, c call, e api.Errno) {
		for lot := max(1, len(o.lots)-3); lot <= len(o.lots) && len(o.lots) < 50; lot++ {
			for i, unit := range []string{"aa", "bb", "cc", "dd"} {
				before := worths(l)
				// There is no advance, as this is the day of the ledger.
				if both(t, l, o, convert(l.Day(), lot, unit, 3+4*i)) == api.OK {
					conversions++
				}
				equal(t, "the worth", worths(l), before)
			}
		}
	})
	if conversions < 300 {
		t.Errorf("only %d conversions", conversions)
	}
}

// worths returns the Worth of accounts on the day of the ledger.
func worths(l *drawers.Ledger) []int {
	var list []int
	for _, a := range []api.Account{outside, thingAccount(1), thingAccount(2), thingAccount(3), crown, lost, bank} {
		list = append(list, l.Worth(a, l.Day()))
	}
	return list
}

// P6.4: it does not matter when the ledger is asked.
func TestAdvanceInSteps(t *testing.T) {
	forfeited := 0
	for seed := range int64(200) {
		calls := accepted(t, 4000+seed, 40)
		whole, steps := drawers.New(), drawers.New()
		done(t, whole, calls...)
		done(t, steps, calls...)
		today := whole.Day()
		last := min(today+30, lastDay)
		n, e := whole.Advance(last)
		same(t, "Advance", e, api.OK)
		sum := 0
		for day := today; day <= last; day += min(1+int(seed)%7, max(1, last-day)) {
			m, e := steps.Advance(day)
			same(t, "Advance", e, api.OK)
			sum += m
		}
		same(t, "how many", sum, n)
		same(t, "all", saidOf(steps, today, today+10, last), saidOf(whole, today, today+10, last))
		forfeited += n
		for _, p := range whole.Postings()[len(whole.Postings())-n:] {
			lots := whole.Lots(p.From.Id)
			i := slices.IndexFunc(lots, func(lot api.Lot) bool { return lot.Id == p.Lot })
			same(t, "the day of the forfeit", p.Day, lots[i].Due)
		}
	}
	if forfeited < 100 {
		t.Errorf("only %d forfeits", forfeited)
	}
}

// Due never changes.
func TestDueIsKept(t *testing.T) {
	for seed := range int64(60) {
		due := map[int]int{}
		randomLedgers(t, 5000+seed, 1, 60, func(l *drawers.Ledger, o *oracle, c call, e api.Errno) {
			for thing := range 5 {
				for _, lot := range l.Lots(thing) {
					if due[lot.Id] == 0 {
						due[lot.Id] = lot.Due
					}
					same(t, "Due", lot.Due, due[lot.Id])
				}
			}
		})
	}
}

// P6.5: what is said of the days before that of the ledger never changes any more.
func TestDaysBeforeAreClosed(t *testing.T) {
	closed := func(l *drawers.Ledger, day int) string {
		text := fmt.Sprint(l.Trial(day))
		for _, unit := range someUnits {
			text += fmt.Sprint(" ", l.Value(unit, day))
		}
		for _, a := range accountsOf(0, 1, 2) {
			text += fmt.Sprint(l.Balances(a, day), l.Worth(a, day), l.Balance(a, "aa", day), l.Balance(a, "bb", day))
		}
		return text
	}
	for seed := range int64(50) {
		texts := map[int]string{}
		randomLedgers(t, 6000+seed, 1, 50, func(l *drawers.Ledger, o *oracle, c call, e api.Errno) {
			if e != api.OK {
				return
			}
			for day := max(-1, l.Day()-6); day < l.Day(); day++ {
				if texts[day] == "" {
					texts[day] = closed(l, day)
				}
			}
			for day, text := range texts {
				if day > l.Day()-12 {
					same(t, fmt.Sprint("the day ", day), closed(l, day), text)
				}
			}
		})
	}
}

// P6.6: Audit accepts the postings of each ledger, and none of them can be left out.
func TestAuditOfLedgers(t *testing.T) {
	randomLedgers(t, 7000, 60, 50, func(l *drawers.Ledger, o *oracle, c call, e api.Errno) {
		if e != api.OK {
			return
		}
		list := l.Postings()
		lines, f := drawers.Audit(list)
		same(t, "Audit", f, api.OK)
		equal(t, "Audit", lines, l.Trial(lastDay))
		for i := range list {
			fewer, f := drawers.Audit(slices.Delete(slices.Clone(list), i, i+1))
			if f == api.OK && slices.Equal(fewer, lines) {
				t.Fatalf("the posting %d may be left out of %v", i, list)
			}
		}
	})
}

// P6.7: statements have each posting once, and their balances are those of the days.
func TestStatementsOfLedgers(t *testing.T) {
	randomLedgers(t, 8000, 60, 40, func(l *drawers.Ledger, o *oracle, c call, e api.Errno) {
		if e != api.OK {
			return
		}
		list := l.Postings()
		for _, a := range accountsOf(0, 1, 2) {
			for _, unit := range []string{"aa", "bb", "cc"} {
				lines := l.Statement(a, unit, 0, lastDay)
				var indices []int
				for i, p := range list {
					if p.Unit == unit && (p.From == a || p.To == a) {
						indices = append(indices, i)
					}
				}
				var got []int
				for i, line := range lines {
					got = append(got, line.Posting)
					day := list[line.Posting].Day
					if i+1 == len(lines) || list[lines[i+1].Posting].Day > day {
						same(t, "the balance", line.Balance, l.Balance(a, unit, day))
					}
				}
				equal(t, "the postings", got, indices)
			}
		}
	})
}

// P6.8: what is refunded of a thing is at most what was forfeited of it, each lot once, and the crown keeps a twentieth of each.
func TestRefundsOfLedgers(t *testing.T) {
	refunds := 0
	randomLedgers(t, 9500, 200, 70, func(l *drawers.Ledger, o *oracle, c call, e api.Errno) {
		if nameOf(c) != "Refund" || e != api.OK {
			return
		}
		forfeited, refunded := map[int]int{}, map[int]int{}
		for _, p := range l.Postings() {
			switch p.Why {
			case api.WhyForfeit:
				forfeited[p.Lot] += p.N
			case api.WhyRefund:
				refunds++
				same(t, "refunded twice", refunded[p.Lot], 0)
				refunded[p.Lot] = p.N
			}
		}
		for lot, n := range refunded {
			if kept := forfeited[lot] - n; kept*20 < forfeited[lot] {
				t.Fatalf("of %d the crown keeps %d", forfeited[lot], kept)
			}
		}
	})
	if refunds < 100 {
		t.Errorf("only %d refunds", refunds)
	}
}
