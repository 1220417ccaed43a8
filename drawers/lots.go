package drawers

import (
	"cmp"
	"slices"

	"restante/api"
)

// which returns the lots for which a condition is true, in ascending order of Id.
func (s *state) which(is func(lot *api.Lot) bool) []*api.Lot {
	var lots []*api.Lot
	for i := range s.lots {
		if is(&s.lots[i]) {
			lots = append(lots, &s.lots[i])
		}
	}
	return lots
}

// due returns the open lots that are due on a day, in ascending order of Due, then of Id.
func (s *state) due(day int) []*api.Lot {
	return byDue(s.which(func(lot *api.Lot) bool { return lot.State == api.LotOpen && lot.Due <= day }))
}

// byDue sorts lots in ascending order of Due, then of Id.
func byDue(lots []*api.Lot) []*api.Lot {
	slices.SortFunc(lots, func(a, b *api.Lot) int { return cmp.Or(cmp.Compare(a.Due, b.Due), cmp.Compare(a.Id, b.Id)) })
	return lots
}

// inState returns the lots of a thing in a state, of which there must be one, in ascending order of Id; others are the further identifiers of the operation.
func (s *state) inState(state uint8, thing int, others ...int) ([]*api.Lot, api.Errno) {
	if !areIds(thing) || !areIds(others...) {
		return nil, api.ErrArg
	}
	lots := s.which(func(lot *api.Lot) bool { return lot.Thing == thing && lot.State == state })
	if len(lots) == 0 {
		return nil, api.ErrNone
	}
	return lots, api.OK
}

func person(id int) api.Account { return api.Account{Kind: api.AcPerson, Id: id} }

// holder returns the account in which the units left of a lot are.
func holder(lot *api.Lot) api.Account {
	switch lot.State {
	case api.LotForfeit:
		return api.Account{Kind: api.AcCrown}
	case api.LotLost:
		return api.Account{Kind: api.AcLost}
	case api.LotBag:
		return api.Account{Kind: api.AcBag, Id: lot.Bag}
	}
	return api.Account{Kind: api.AcThing, Id: lot.Thing}
}

// post adds a posting about a lot, on the day of the ledger.
func (s *state) post(lot *api.Lot, n int, from, to api.Account, why uint8) {
	s.postings = append(s.postings, api.Posting{Day: s.day, Unit: lot.Unit, N: n, From: from, To: to, Why: why, Lot: lot.Id})
}

// open makes a lot with the Thing, Layer, Due, Unit and N of another one, of units from an account, and returns its Id.
func (s *state) open(like api.Lot, from api.Account, why uint8) int {
	lot := api.Lot{Id: len(s.lots) + 1, Thing: like.Thing, Layer: like.Layer, Day: s.day, Due: like.Due, Unit: like.Unit, N: like.N, Left: like.N, State: api.LotOpen}
	s.lots = append(s.lots, lot)
	s.post(&lot, lot.N, from, holder(&lot), why)
	return lot.Id
}

// shift brings a lot into another state, and what is left of it into the account that holds lots in this state.
func (s *state) shift(lot *api.Lot, state, why uint8) {
	from := holder(lot)
	lot.State = state
	s.post(lot, lot.Left, from, holder(lot), why)
}

// spend moves units of a lot to an account that holds no lots; a lot of which nothing is left comes into the state end.
func (s *state) spend(lot *api.Lot, n int, to api.Account, why, end uint8) {
	s.post(lot, n, holder(lot), to, why)
	lot.Left -= n
	if lot.Left == 0 {
		lot.State = end
	}
}

// leftOf returns what is left of lots, in ascending order of units.
func leftOf(lots []*api.Lot) []api.Amount {
	sums := map[string]int{}
	for _, lot := range lots {
		sums[lot.Unit] += lot.Left
	}
	return amountsOf(sums)
}

// copiesOf returns lots as they are now.
func copiesOf(lots []*api.Lot) []api.Lot {
	var list []api.Lot
	for _, lot := range lots {
		list = append(list, *lot)
	}
	return list
}
