package desk

import (
	"strconv"

	"restante/api"
	"restante/reading"
	"restante/seals"
)

// mostText is how many bytes the text of a thing that arrives may have, and a line of the books.
const mostText = 4000

// Arrive takes a thing from outside into a room.
func (d *Desk) Arrive(office, room int, t api.Thing) api.Errno {
	return d.command(office, func(s *draft) api.Errno {
		text, e := d.admit(room, t)
		if e != api.OK {
			return e
		}
		s.keep = func(note string) api.Errno { return s.keeper.Enter(api.Token{Id: t.Id, Body: text}, note) }
		return s.write(api.Record{Kind: api.RecArrive, Room: room, Thing: t.Id, N: t.Day, Text: docketText(t)})
	})
}

// admit returns the text of a thing that is to arrive in a room, or the error of it.
func (d *Desk) admit(room int, t api.Thing) (string, api.Errno) {
	if d.isAnyDown() {
		return "", api.ErrDown
	}
	if !isRoom(room) {
		return "", api.ErrArg
	}
	if e := seals.CheckThing(t); e != api.OK {
		return "", e
	}
	if t.Day > d.today {
		return "", api.ErrArg
	}
	if e := checkReadings(t); e != api.OK {
		return "", e
	}
	seal, _ := seals.Begin(t)
	text, e := seals.PutThing(t, seal, room)
	switch {
	case e != api.OK:
		return "", e
	case len(text) > mostText:
		return "", api.ErrLimit
	case d.hasRecord(func(r api.Record) bool { return r.Kind == api.RecArrive && r.Thing == t.Id }):
		return "", api.ErrTwice
	}
	return text, api.OK
}

func checkReadings(t api.Thing) api.Errno {
	for _, layer := range t.Layers {
		for _, piece := range layer.Pieces {
			if _, e := reading.Of(piece.Cells); e != api.OK {
				return e
			}
		}
	}
	return api.OK
}

// hasRecord reports whether the journal of an office has a record that is wanted.
func (d *Desk) hasRecord(wanted func(r api.Record) bool) bool {
	for _, b := range d.branches {
		for _, r := range b.records {
			if wanted(r) {
				return true
			}
		}
	}
	return false
}

// digitsOf returns the digits of the kinds of the pieces of a docket.
func digitsOf(docket []uint8) string {
	text := ""
	for _, kind := range docket {
		text += strconv.Itoa(int(kind))
	}
	return text
}

func docketText(t api.Thing) string {
	text := ""
	for i := range t.Layers {
		docket, _ := seals.Docket(t, i+1)
		text += digitsOf(docket) + "/"
	}
	return text
}

// Hand brings a thing to another room of the office.
func (d *Desk) Hand(office, thing, room int) api.Errno {
	return d.command(office, func(s *draft) api.Errno {
		x, ok := s.inRoom(thing)
		switch {
		case !ok:
			return api.ErrNone
		case !isRoom(room) || room == x.room:
			return api.ErrArg
		case !s.ruled:
			return api.ErrState
		}
		fact := s.sceneOf(x, room).fact
		seal, _, e := seals.Hand(x.thing, x.seal, s.policy, fact, x.room)
		if e != api.OK {
			return e
		}
		s.change(item{x.thing, seal, room})
		return s.write(api.Record{Kind: api.RecHand, Room: room, Thing: thing, Fact: fact, N: x.room})
	})
}

// Burn records that a thing is lost.
func (d *Desk) Burn(office, thing int) api.Errno {
	return d.command(office, func(s *draft) api.Errno {
		x, ok := s.inRoom(thing)
		if !ok {
			return api.ErrNone
		}
		s.keep = func(note string) api.Errno { return s.keeper.Burn([]int{thing}, note) }
		return s.write(api.Record{Kind: api.RecLoss, Room: x.room, Thing: thing})
	})
}
