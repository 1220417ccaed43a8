package drawers

import (
	"slices"

	"restante/api"
)

// Refund pays forfeited lots of a thing, less a fee, to a person who claims them late, and returns the sums.
func (l *Ledger) Refund(day, thing, who int) ([]api.Amount, api.Errno) {
	return operate(l, day, func(s *state) ([]api.Amount, api.Errno) {
		lots, e := s.inState(api.LotForfeit, thing, who)
		if e != api.OK {
			return nil, e
		}
		lots = slices.DeleteFunc(lots, func(lot *api.Lot) bool { return s.day-lot.Due > api.LateDays })
		if len(lots) == 0 {
			return nil, api.ErrLate
		}
		sums := map[string]int{}
		for _, lot := range lots {
			sums[lot.Unit] += s.refund(lot, who)
		}
		return amountsOf(sums), api.OK
	})
}

// refund pays a lot, less the fee that stays with the crown, and returns how many units were paid.
func (s *state) refund(lot *api.Lot, who int) int {
	fee := (lot.Left + api.FeePart - 1) / api.FeePart
	rest := lot.Left - fee
	if rest > 0 {
		s.post(lot, rest, holder(lot), person(who), api.WhyRefund)
	}
	lot.Left, lot.State = 0, api.LotRefunded
	return rest
}

// Lose records the loss of all open lots of a thing, and returns the sums.
func (l *Ledger) Lose(day, thing int) ([]api.Amount, api.Errno) {
	return operate(l, day, func(s *state) ([]api.Amount, api.Errno) {
		lots, e := s.inState(api.LotOpen, thing)
		for _, lot := range lots {
			s.shift(lot, api.LotLost, api.WhyLose)
		}
		return leftOf(lots), e
	})
}

// Recover takes the lots of a thing that are lost back, and returns the sums; those that are due by now are forfeited.
func (l *Ledger) Recover(day, thing int) ([]api.Amount, api.Errno) {
	return operate(l, day, func(s *state) ([]api.Amount, api.Errno) {
		lots, e := s.inState(api.LotLost, thing)
		for _, lot := range lots {
			s.shift(lot, api.LotOpen, api.WhyRecover)
		}
		s.advance(s.day)
		return leftOf(lots), e
	})
}
