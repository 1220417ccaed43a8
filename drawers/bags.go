package drawers

import "restante/api"

// Dispatch puts all open lots of a thing into a bag, and returns them as they are then.
func (l *Ledger) Dispatch(day, thing, bag int) ([]api.Lot, api.Errno) {
	return operate(l, day, func(s *state) ([]api.Lot, api.Errno) {
		lots, e := s.inState(api.LotOpen, thing, bag)
		for _, lot := range lots {
			lot.Bag = bag
			s.shift(lot, api.LotBag, api.WhyDispatch)
		}
		return copiesOf(lots), e
	})
}

// Arrived records that a bag has arrived in another office, and returns how many lots were in it.
func (l *Ledger) Arrived(day, bag int) (int, api.Errno) {
	return operate(l, day, func(s *state) (int, api.Errno) {
		if !areIds(bag) {
			return 0, api.ErrArg
		}
		lots := s.which(func(lot *api.Lot) bool { return lot.State == api.LotBag && lot.Bag == bag })
		if len(lots) == 0 {
			return 0, api.ErrNone
		}
		for _, lot := range lots {
			s.spend(lot, lot.Left, api.Account{Kind: api.AcOutside}, api.WhyArrive, api.LotGone)
		}
		return len(lots), api.OK
	})
}

// Receive makes a new lot for each lot that comes from another office, in order, and returns their Ids; those that are due by now are forfeited.
func (l *Ledger) Receive(day int, lots []api.Lot) ([]int, api.Errno) {
	return operate(l, day, func(s *state) ([]int, api.Errno) {
		if e := s.refusesLots(lots); e != api.OK {
			return nil, e
		}
		var ids []int
		for _, like := range lots {
			like.N = like.Left
			ids = append(ids, s.open(like, api.Account{Kind: api.AcOutside}, api.WhyReceive))
		}
		s.advance(s.day)
		return ids, api.OK
	})
}

// refusesLots returns the error of lots from another office.
func (s *state) refusesLots(lots []api.Lot) api.Errno {
	for _, x := range lots {
		if !areIds(x.Thing) || !within(x.Layer, 1, api.MaxLayers) || !within(x.Due, 1, never) || !within(x.Left, 1, api.MaxN) {
			return api.ErrArg
		}
		if s.unit(x.Unit) == nil {
			return api.ErrUnit
		}
	}
	return s.refusesMore(len(lots))
}
