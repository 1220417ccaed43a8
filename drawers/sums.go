package drawers

import (
	"cmp"
	"slices"
	"strings"

	"restante/api"
)

// pocket is the units of one kind in an account.
type pocket struct {
	account api.Account
	unit    string
}

func comparePockets(a, b pocket) int {
	return cmp.Or(cmp.Compare(a.account.Kind, b.account.Kind), cmp.Compare(a.account.Id, b.account.Id), strings.Compare(a.unit, b.unit))
}

// filled returns the keys of sums that are not 0, in ascending order.
func filled[K comparable](sums map[K]int, compare func(a, b K) int) []K {
	var keys []K
	for key, n := range sums {
		if n != 0 {
			keys = append(keys, key)
		}
	}
	slices.SortFunc(keys, compare)
	return keys
}

// amountsOf returns the sums of units that are not 0, in ascending order of units.
func amountsOf(sums map[string]int) []api.Amount {
	var amounts []api.Amount
	for _, unit := range filled(sums, strings.Compare) {
		amounts = append(amounts, api.Amount{Unit: unit, N: sums[unit]})
	}
	return amounts
}

// linesOf returns the sums of pockets that are not 0, in ascending order of pockets.
func linesOf(sums map[pocket]int) []api.TrialLine {
	var lines []api.TrialLine
	for _, p := range filled(sums, comparePockets) {
		lines = append(lines, api.TrialLine{Account: p.account, Unit: p.unit, N: sums[p]})
	}
	return lines
}

// moved returns how many units of one kind a posting moves to an account, less those that it moves from it.
func moved(p api.Posting, a api.Account, unit string) int {
	switch {
	case p.Unit != unit:
		return 0
	case p.To == a:
		return p.N
	case p.From == a:
		return -p.N
	}
	return 0
}

// move counts a posting into sums.
func move(sums map[pocket]int, p api.Posting) {
	sums[pocket{p.From, p.Unit}] -= p.N
	sums[pocket{p.To, p.Unit}] += p.N
}

// sumsOn returns what the postings up to a day have moved.
func (s *state) sumsOn(day int) map[pocket]int {
	sums := map[pocket]int{}
	for _, p := range s.postings {
		if p.Day <= day {
			move(sums, p)
		}
	}
	return sums
}
