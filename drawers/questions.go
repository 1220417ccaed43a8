package drawers

import (
	"slices"

	"restante/api"
)

// Lots returns all lots of a thing, in ascending order of Id.
func (l *Ledger) Lots(thing int) []api.Lot {
	s := l.books()
	return copiesOf(s.which(func(lot *api.Lot) bool { return lot.Thing == thing }))
}

// Due returns all open lots that are due on a day, in ascending order of Due, then of Id.
func (l *Ledger) Due(until int) []api.Lot {
	s := l.books()
	return copiesOf(s.due(until))
}

// Balance returns how many units are in an account after the postings up to a day.
func (l *Ledger) Balance(a api.Account, unit string, day int) int {
	balance := 0
	for _, p := range l.books().postings {
		if p.Day <= day {
			balance += moved(p, a, unit)
		}
	}
	return balance
}

// Balances returns the balances of an account that are not 0, in ascending order of units.
func (l *Ledger) Balances(a api.Account, day int) []api.Amount {
	var amounts []api.Amount
	for _, line := range l.Trial(day) {
		if line.Account == a {
			amounts = append(amounts, api.Amount{Unit: line.Unit, N: line.N})
		}
	}
	return amounts
}

// Worth returns what the units in an account are worth on a day.
func (l *Ledger) Worth(a api.Account, day int) int {
	grains := 0
	for _, x := range l.Balances(a, day) {
		grains += x.N * l.Value(x.Unit, day)
	}
	return grains
}

// Postings returns all postings, in order.
func (l *Ledger) Postings() []api.Posting { return slices.Clone(l.books().postings) }

// Statement returns the postings from a day to another one that move a unit to or from an account, each with the balance behind it.
func (l *Ledger) Statement(a api.Account, unit string, from, until int) []api.StatementLine {
	var lines []api.StatementLine
	balance := 0
	for i, p := range l.books().postings {
		n := moved(p, a, unit)
		balance += n
		if n != 0 && within(p.Day, from, until) {
			lines = append(lines, api.StatementLine{Posting: i, Balance: balance})
		}
	}
	return lines
}

// Trial returns all balances that are not 0 after the postings up to a day, in ascending order of accounts, then of units.
func (l *Ledger) Trial(day int) []api.TrialLine {
	s := l.books()
	return linesOf(s.sumsOn(day))
}

// Audit checks a list of postings by itself, and returns the balances behind it that are not 0.
func Audit(l []api.Posting) ([]api.TrialLine, api.Errno) {
	if len(l) > api.MaxPostings {
		return nil, api.ErrLimit
	}
	sums := map[pocket]int{}
	for i, p := range l {
		if !isPosting(p) {
			return nil, api.ErrArg
		}
		if i > 0 && p.Day < l[i-1].Day {
			return nil, api.ErrTime
		}
		move(sums, p)
		if sums[pocket{p.From, p.Unit}] < 0 && p.From.Kind != api.AcOutside && p.From.Kind != api.AcBank {
			return nil, api.ErrEmpty
		}
	}
	return linesOf(sums), api.OK
}
