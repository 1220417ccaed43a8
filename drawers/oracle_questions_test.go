package drawers_test

import (
	"cmp"
	"maps"
	"slices"

	"restante/api"
)

func (o *oracle) Lots(thing int) []api.Lot {
	return slices.DeleteFunc(slices.Clone(o.lots), func(lot api.Lot) bool { return lot.Thing != thing })
}

func (o *oracle) Due(until int) []api.Lot {
	list := slices.DeleteFunc(slices.Clone(o.lots), func(lot api.Lot) bool { return lot.State != api.LotOpen || lot.Due > until })
	slices.SortStableFunc(list, func(a, b api.Lot) int { return cmp.Compare(a.Due, b.Due) })
	return list
}

// moved returns what a posting moves to an account, less what it moves from it.
func moved(p api.Posting, a api.Account, unit string) int {
	n := 0
	if p.Unit == unit && p.To == a {
		n += p.N
	}
	if p.Unit == unit && p.From == a {
		n -= p.N
	}
	return n
}

func (o *oracle) Balance(a api.Account, unit string, day int) int {
	return balance(o.postings, a, unit, day)
}

func balance(list []api.Posting, a api.Account, unit string, day int) int {
	n := 0
	for _, p := range list {
		if p.Day <= day {
			n += moved(p, a, unit)
		}
	}
	return n
}

func (o *oracle) Balances(a api.Account, day int) []api.Amount {
	sums := map[string]int{}
	for unit := range o.kinds {
		sums[unit] = o.Balance(a, unit, day)
	}
	return sumsAsAmounts(sums)
}

func (o *oracle) Worth(a api.Account, day int) int {
	worth := 0
	for unit := range o.kinds {
		worth += o.Balance(a, unit, day) * o.Value(unit, day)
	}
	return worth
}

func (o *oracle) Postings() []api.Posting { return slices.Clone(o.postings) }

func (o *oracle) Statement(a api.Account, unit string, from, until int) []api.StatementLine {
	var lines []api.StatementLine
	for i, p := range o.postings {
		if p.Unit == unit && p.Day >= from && p.Day <= until && (p.From == a || p.To == a) {
			lines = append(lines, api.StatementLine{Posting: i, Balance: balance(o.postings[:i+1], a, unit, 100000)})
		}
	}
	return lines
}

func (o *oracle) Trial(day int) []api.TrialLine { return trial(o.postings, day) }

func trial(list []api.Posting, day int) []api.TrialLine {
	ids, units := map[int]bool{}, map[string]bool{}
	for _, p := range list {
		ids[p.From.Id], ids[p.To.Id], units[p.Unit] = true, true, true
	}
	var lines []api.TrialLine
	for kind := uint8(1); kind <= 7; kind++ {
		for _, id := range slices.Sorted(maps.Keys(ids)) {
			for _, unit := range slices.Sorted(maps.Keys(units)) {
				a := api.Account{Kind: kind, Id: id}
				if n := balance(list, a, unit, day); n != 0 {
					lines = append(lines, api.TrialLine{Account: a, Unit: unit, N: n})
				}
			}
		}
	}
	return lines
}

func isValid(a api.Account) bool {
	if a.Kind == 2 || a.Kind == 3 || a.Kind == 7 {
		return isId(a.Id)
	}
	return a.Kind >= 1 && a.Kind <= 7 && a.Id == 0
}

// isReason reports whether the table has a reason with these kinds of accounts.
func isReason(p api.Posting) bool {
	kinds := [2]uint8{p.From.Kind, p.To.Kind}
	table := map[uint8][][2]uint8{
		1: {{1, 2}}, 2: {{2, 3}}, 3: {{2, 4}}, 4: {{4, 3}}, 5: {{2, 6}, {6, 2}},
		6: {{2, 5}}, 7: {{5, 2}}, 8: {{2, 7}}, 9: {{7, 1}}, 10: {{1, 2}},
	}
	return slices.Contains(table[p.Why], kinds)
}

func auditOf(list []api.Posting) ([]api.TrialLine, api.Errno) {
	if len(list) > 20000 {
		return nil, api.ErrLimit
	}
	for i, p := range list {
		if p.Day < 0 || p.Day > 100000 || !isName(p.Unit) || p.N < 1 || p.N > 1000000000 || p.Lot < 1 || p.Lot > 2000 || !isValid(p.From) || !isValid(p.To) || !isReason(p) {
			return nil, api.ErrArg
		}
		if i > 0 && p.Day < list[i-1].Day {
			return nil, api.ErrTime
		}
		if p.From != outside && p.From != bank && balance(list[:i+1], p.From, p.Unit, 100000) < 0 {
			return nil, api.ErrEmpty
		}
	}
	return trial(list, 100000), api.OK
}
