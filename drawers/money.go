package drawers

import (
	"slices"

	"restante/api"
)

// Deposit makes a lot of each element of goods, in order, and returns their Ids.
func (l *Ledger) Deposit(day, thing, layer int, goods []api.Amount) ([]int, api.Errno) {
	return operate(l, day, func(s *state) ([]int, api.Errno) {
		if e := s.refusesGoods(thing, layer, goods); e != api.OK {
			return nil, e
		}
		var ids []int
		for _, x := range goods {
			like := api.Lot{Thing: thing, Layer: layer, Due: s.dueOf(x.Unit, x.N), Unit: x.Unit, N: x.N}
			ids = append(ids, s.open(like, api.Account{Kind: api.AcOutside}, api.WhyDeposit))
		}
		return ids, api.OK
	})
}

// refusesGoods returns the error of a deposit.
func (s *state) refusesGoods(thing, layer int, goods []api.Amount) api.Errno {
	if !areIds(thing) || !within(layer, 1, api.MaxLayers) {
		return api.ErrArg
	}
	if len(goods) > api.MaxGoods {
		return api.ErrLimit
	}
	for i, x := range goods {
		if !within(x.N, 1, api.MaxN) || i > 0 && x.Unit <= goods[i-1].Unit {
			return api.ErrArg
		}
		if s.unit(x.Unit) == nil {
			return api.ErrUnit
		}
	}
	if slices.ContainsFunc(s.lots, func(lot api.Lot) bool { return lot.Thing == thing && lot.Layer == layer }) {
		return api.ErrTwice
	}
	return s.refusesMore(len(goods))
}

// refusesMore returns the error of making more lots.
func (s *state) refusesMore(lots int) api.Errno {
	if len(s.lots)+lots > api.MaxLots {
		return api.ErrLimit
	}
	return api.OK
}

// Pay pays all open lots of a thing to a person, and returns the sums.
func (l *Ledger) Pay(day, thing, who int) ([]api.Amount, api.Errno) {
	return operate(l, day, func(s *state) ([]api.Amount, api.Errno) {
		lots, e := s.inState(api.LotOpen, thing, who)
		sums := leftOf(lots)
		for _, lot := range lots {
			s.spend(lot, lot.Left, person(who), api.WhyPay, api.LotPaid)
		}
		return sums, e
	})
}

// Take pays n units of open lots of a thing to a person, those that are due first.
func (l *Ledger) Take(day, thing int, name string, n, who int) api.Errno {
	return l.change(day, func(s *state) api.Errno {
		if !areIds(thing, who) || n < 1 {
			return api.ErrArg
		}
		if s.unit(name) == nil {
			return api.ErrUnit
		}
		lots := s.which(func(lot *api.Lot) bool {
			return lot.Thing == thing && lot.State == api.LotOpen && lot.Unit == name
		})
		needed := n
		for _, lot := range byDue(lots) {
			if part := min(needed, lot.Left); part > 0 {
				s.spend(lot, part, person(who), api.WhyPay, api.LotPaid)
				needed -= part
			}
		}
		if needed > 0 {
			return api.ErrEmpty
		}
		return api.OK
	})
}

// trade is m units that are worth k of another unit.
type trade struct{ m, k int }

// fair returns the trade of the most units, but at most n, each worth the grains a, for units that are worth the grains b; zero if there is none.
func fair(n, a, b int) trade {
	common := divisor(a, b)
	m, k := b/common, a/common // the trade of the fewest units: all others are multiples of it
	times := min(n/m, api.MaxN/k)
	return trade{m: times * m, k: times * k}
}

// divisor returns the greatest common divisor of two numbers from 1 on.
func divisor(a, b int) int {
	for b > 0 {
		a, b = b, a%b
	}
	return a
}

// Convert converts units of an open lot into another unit, and returns how many into how many.
func (l *Ledger) Convert(day, lot int, to string, n int) (int, int, api.Errno) {
	t, e := operate(l, day, func(s *state) (trade, api.Errno) { return s.convert(lot, to, n) })
	return t.m, t.k, e
}

func (s *state) convert(id int, to string, n int) (trade, api.Errno) {
	if !within(id, 1, len(s.lots)) || s.lots[id-1].State != api.LotOpen {
		return trade{}, api.ErrNone
	}
	lot := &s.lots[id-1]
	a, b := s.value(lot.Unit, s.day), s.value(to, s.day) // 0 also if there is no unit
	if to == lot.Unit || a == 0 || b == 0 {
		return trade{}, api.ErrUnit
	}
	if n < 1 {
		return trade{}, api.ErrArg
	}
	t := fair(n, a, b)
	if n > lot.Left || t.m == 0 {
		return trade{}, api.ErrEmpty
	}
	if e := s.refusesMore(1); e != api.OK {
		return trade{}, e
	}
	bank := api.Account{Kind: api.AcBank}
	like := *lot
	like.Unit, like.N = to, t.k
	s.spend(lot, t.m, bank, api.WhyConvert, api.LotPaid)
	s.open(like, bank, api.WhyConvert)
	return t, api.OK
}
