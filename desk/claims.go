package desk

import (
	"slices"

	"restante/api"
	"restante/court"
)

// Claim makes a claim at an office, and returns its number.
func (d *Desk) Claim(office, person, thing int, ask uint8) (int, api.Errno) {
	number := 0
	e := d.command(office, func(s *draft) api.Errno {
		if !isId(person) || !isId(thing) || ask < api.AskOpened || ask > api.AskSent {
			return api.ErrArg
		}
		number = 1 + s.count(api.RecClaim)
		return s.write(api.Record{Kind: api.RecClaim, Thing: thing, Person: person, N: number, Verdict: ask})
	})
	if e != api.OK {
		return 0, e
	}
	return number, api.OK
}

// Answer answers a claim.
func (d *Desk) Answer(office, claim int) (api.Bundle, api.Errno) {
	var b api.Bundle
	e := d.command(office, func(s *draft) api.Errno {
		if d.isAnyDown() {
			return api.ErrDown
		}
		c, ok := s.openClaim(claim)
		if !ok {
			return api.ErrNone
		}
		var e api.Errno
		if b, e = court.Bundle(d.journals(), c); e != api.OK {
			return e
		}
		return s.write(api.Record{Kind: api.RecAnswer, Thing: c.Thing, N: c.Id, Verdict: b.Ruling.Answer})
	})
	if e != api.OK {
		return api.Bundle{}, e
	}
	return b, api.OK
}

// openClaim returns the claim with a number, and whether there is one that was not answered.
func (s *state) openClaim(number int) (api.Claim, bool) {
	var c api.Claim
	open := false
	for _, r := range s.records {
		switch {
		case r.Kind == api.RecClaim && r.N == number:
			c = api.Claim{Id: number, Day: r.Day, Person: r.Person, Thing: r.Thing, Ask: r.Verdict}
			open = true
		case r.Kind == api.RecAnswer && r.N == number:
			open = false
		}
	}
	return c, open
}

// Refund pays forfeited lots of a thing to a person who claims them late, and returns the sums.
func (d *Desk) Refund(office, thing, person int) ([]api.Amount, api.Errno) {
	var sums []api.Amount
	e := d.command(office, func(s *draft) api.Errno {
		if !isId(thing) || !isId(person) {
			return api.ErrArg
		}
		party, e := court.Party(d.journals(), person, thing)
		switch {
		case e != api.OK:
			return e
		case !party:
			return api.ErrState
		}
		e = s.write(api.Record{Kind: api.RecMoney, Room: 1, Thing: thing, Person: person, Verdict: api.WhyRefund})
		if e == api.OK {
			sums = slices.Clone(s.records[len(s.records)-1].Goods)
		}
		return e
	})
	if e != api.OK {
		return nil, e
	}
	return sums, api.OK
}
