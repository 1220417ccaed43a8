package desk

import (
	"slices"
	"strings"

	"restante/api"
	"restante/custody"
	"restante/seals"
)

// Ship puts a thing that is in a room into a bag of its own for another office.
func (d *Desk) Ship(office, thing, to int) api.Errno {
	return d.command(office, func(s *draft) api.Errno {
		if d.branch(to) == nil || to == office {
			return api.ErrArg
		}
		x, ok := s.inRoom(thing)
		if !ok {
			return api.ErrNone
		}
		if e := s.advance(); e != api.OK {
			return e
		}
		if len(s.openLots(thing)) > api.MaxCarry {
			return api.ErrLimit
		}
		number := 1 + s.count(api.RecShip)
		s.keep = func(note string) api.Errno {
			_, e := s.keeper.Ship(to, []int{thing}, note)
			return e
		}
		return s.write(api.Record{Kind: api.RecShip, Room: x.room, Thing: thing, Place: to, N: number})
	})
}

// count returns how many records of a kind the journal has.
func (s *state) count(kind uint8) int {
	n := 0
	for _, r := range s.records {
		if r.Kind == kind {
			n++
		}
	}
	return n
}

// Offer sends all bags of an office that were not acknowledged.
func (d *Desk) Offer(office int) api.Errno {
	b, e := d.open(office)
	if e != api.OK {
		return e
	}
	for _, letter := range b.keeper.Offer() {
		bag, _ := custody.GetBag(letter.Text)
		// A bag that finds no room on its line is offered again.
		d.net.Send(office, letter.To, b.papersOf(bag).text()+letter.Text)
	}
	return api.OK
}

// Carry delivers a message.
func (d *Desk) Carry(from, to, index int) api.Errno {
	switch {
	case d == nil:
		return api.ErrNil
	case !within(index, 0, d.net.Waiting(from, to)-1):
		return api.ErrNone
	case d.branches[to].disk.Down():
		return api.ErrDown
	}
	m, e := d.net.Take(from, to, index)
	if e != api.OK {
		return e
	}
	answer := ""
	e = d.branches[to].perform(d.today, func(s *draft) api.Errno {
		p, text := opened(m)
		s.keep = func(note string) (e api.Errno) {
			answer, e = s.keeper.Hear(text, note)
			return e
		}
		return s.hear(p, text)
	})
	if e == api.OK && answer != "" {
		// An answer that finds no room on its line is given again when the bag comes again.
		d.net.Send(to, from, answer)
	}
	return e
}

// opened returns the papers of a message, and what custody hears of it. An acknowledgement has no papers.
func opened(m string) (papers, string) {
	if !strings.HasPrefix(m, papersWord) {
		return papers{}, m
	}
	next := cutter(&m)
	next(" ")
	p := cutPapers(next)
	return p, m
}

// hear does what a message does besides what custody does.
func (s *draft) hear(p papers, text string) api.Errno {
	if bag, e := custody.GetBag(text); e == api.OK {
		if bag.Seq == s.keeper.Heard(bag.From)+1 {
			s.doors[p.thing] = p
			s.note.WriteString(p.text())
		}
		return api.OK
	}
	for _, bag := range s.keeper.Bags() {
		if text == gotText(bag) {
			return s.release(bag)
		}
	}
	return api.OK
}

// gotText returns the acknowledgement of a bag.
func gotText(bag api.Bag) string {
	return "got " + numbers(bag.To, bag.From, bag.Seq) + "\n"
}

// release lets the lots in a bag arrive, if there are some.
func (s *draft) release(bag api.Bag) api.Errno {
	number := s.numberOf(bag)
	if len(s.lotsIn(bag.Tokens[0].Id, number)) == 0 {
		return api.OK
	}
	if _, e := s.ledger.Arrived(s.today, number); e != api.OK {
		return e
	}
	s.tried = true
	s.note.WriteString(arrivedNote(s.today, number))
	return api.OK
}

// Lose takes a message from its line.
func (d *Desk) Lose(from, to, index int) api.Errno {
	if d == nil {
		return api.ErrNil
	}
	return d.net.Lose(from, to, index)
}

// Repeat puts a copy of a message on its line.
func (d *Desk) Repeat(from, to, index int) api.Errno {
	if d == nil {
		return api.ErrNil
	}
	return d.net.Repeat(from, to, index)
}

// Unpack brings a thing from the door to a room.
func (d *Desk) Unpack(office, thing, room int) api.Errno {
	return d.command(office, func(s *draft) api.Errno {
		door, ok := s.doors[thing]
		switch {
		case !ok:
			return api.ErrNone
		case !isRoom(room):
			return api.ErrArg
		case !s.ruled:
			return api.ErrState
		}
		x, _ := itemWith(s.keeper, thing)
		closed, _ := seals.Begin(x.thing)
		fact := s.sceneOf(item{x.thing, closed, room}, room).fact
		seal, _, e := seals.Pass(x.thing, x.seal, s.policy, fact, x.room)
		if e != api.OK {
			return e
		}
		s.change(item{x.thing, seal, room})
		return s.write(api.Record{Kind: api.RecReceive, Room: room, Thing: thing, Fact: fact, Place: door.from, N: door.number, Person: x.room})
	})
}

// papersOf returns what another office has to know of a bag.
func (s *state) papersOf(bag api.Bag) papers {
	p := papers{from: bag.From, thing: bag.Tokens[0].Id, number: s.numberOf(bag)}
	p.lots = s.lotsIn(p.thing, p.number)
	return p
}

// numberOf returns the number of a bag, which custody counts for each other office by itself.
func (s *state) numberOf(bag api.Bag) int {
	seq := 0
	for _, r := range s.records {
		if r.Kind != api.RecShip || r.Place != bag.To {
			continue
		}
		seq++
		if seq == bag.Seq {
			return r.N
		}
	}
	return 0
}

// lotsIn returns the lots of a thing that are in a bag.
func (s *state) lotsIn(thing, number int) []api.Lot {
	return slices.DeleteFunc(s.ledger.Lots(thing), func(lot api.Lot) bool {
		return lot.State != api.LotBag || lot.Bag != number
	})
}
