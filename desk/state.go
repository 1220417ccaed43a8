package desk

import (
	"maps"
	"slices"

	"restante/api"
	"restante/court"
	"restante/drawers"
)

// state is what an office knows besides what it holds; all of it follows from the notes of its commands.
type state struct {
	records []api.Record
	books   api.Books
	policy  api.Policy
	ruled   bool // whether there is a policy
	ledger  *drawers.Ledger
	doors   map[int]papers // of the things at the door
}

// copied returns a state that can be changed while s stays as it is, but for the ledger. What is added to its records lies behind those of s.
func (s state) copied() state {
	s.doors = maps.Clone(s.doors)
	return s
}

// recall returns the state of an office that left some notes.
func recall(notes []string) state {
	s := state{ledger: drawers.New(), doors: map[int]papers{}}
	for _, note := range notes {
		s.follow(note)
	}
	s.books, _, _ = court.Books(s.records)
	s.policy, s.ruled = court.Policy(s.records)
	return s
}

// openLots returns the open lots of a thing.
func (s *state) openLots(thing int) []api.Lot {
	return slices.DeleteFunc(s.ledger.Lots(thing), func(lot api.Lot) bool { return lot.State != api.LotOpen })
}

// enter advances the ledger to the day of a record, and does there what belongs to the record; it returns the sums that are paid.
func (s *state) enter(r api.Record) ([]api.Amount, api.Errno) {
	l := s.ledger
	if _, e := l.Advance(r.Day); e != api.OK {
		return nil, e
	}
	e := api.OK
	switch r.Kind {
	case api.RecMoney:
		return s.enterMoney(r)
	case api.RecShip:
		if len(s.openLots(r.Thing)) > 0 {
			_, e = l.Dispatch(r.Day, r.Thing, r.N)
		}
	case api.RecLoss:
		if len(s.openLots(r.Thing)) > 0 {
			_, e = l.Lose(r.Day, r.Thing)
		}
	case api.RecReceive:
		_, e = l.Receive(r.Day, s.doors[r.Thing].lots)
		delete(s.doors, r.Thing)
	}
	return nil, e
}

func (s *state) enterMoney(r api.Record) ([]api.Amount, api.Errno) {
	switch r.Verdict {
	case api.WhyPay:
		return s.ledger.Pay(r.Day, r.Thing, r.Person)
	case api.WhyRefund:
		return s.ledger.Refund(r.Day, r.Thing, r.Person)
	}
	_, e := s.ledger.Deposit(r.Day, r.Thing, r.N, r.Goods)
	return nil, e
}

// advance advances the ledger to today.
func (s *draft) advance() api.Errno {
	s.tried = true
	_, e := s.ledger.Advance(s.today)
	return e
}

// write adds a record to the journal, with the sums that are paid as its Goods.
func (s *draft) write(r api.Record) api.Errno {
	r.Office, r.Seq, r.Day = s.id, len(s.records), s.today
	r.Salt = s.salt + api.MaxOffices*r.Seq + r.Office
	s.tried = true
	sums, e := s.enter(r)
	if e != api.OK {
		return e
	}
	if len(sums) > 0 {
		r.Goods = sums
	}
	s.records = append(s.records, r)
	s.note.WriteString(recordNote(r))
	return api.OK
}
