package desk

import (
	"restante/api"
	"restante/seals"
)

// Work does what the verdict of the room in which a thing is demands, and returns this verdict.
func (d *Desk) Work(office, thing int) (api.Verdict, api.Errno) {
	var v api.Verdict
	e := d.command(office, func(s *draft) api.Errno {
		x, ok := s.inRoom(thing)
		if !ok {
			return api.ErrNone
		}
		if !s.ruled {
			return api.ErrState
		}
		room := s.sceneOf(x, x.room)
		var e api.Errno
		if v, e = room.verdict(); e != api.OK {
			return e
		}
		e = s.write(api.Record{Kind: api.RecVerdict, Room: x.room, Thing: thing, Fact: room.fact, Verdict: v.Kind, Person: v.Who.Person, Place: v.Place, Look: v.Look, N: v.Plan.Intrusion})
		if e != api.OK {
			return e
		}
		return s.obey(room, v)
	})
	if e != api.OK {
		return api.Verdict{}, e
	}
	return v, api.OK
}

// obey does what the verdict of a room demands.
func (s *draft) obey(x scene, v api.Verdict) api.Errno {
	isHouse := v.Route.Kind == api.RouteHouse && v.Place != 0
	switch {
	case v.Kind == api.VerLook:
		return s.look(x, v.Look)
	case v.Kind == api.VerDeliver && isHouse:
		return s.handOut(x, api.RecDeliver, v)
	case v.Kind == api.VerReturn && isHouse:
		return s.handOut(x, api.RecReturn, v)
	}
	return s.write(api.Record{Kind: api.RecKeep, Room: x.room, Thing: x.thing.Id})
}

// look shows a look to the room, and deposits what is in the layers that are opened for it.
func (s *draft) look(x scene, l api.Look) api.Errno {
	x.fact.Layer = l.Layer
	seal, piece, e := seals.Take(x.thing, x.seal, x.policy, x.fact, l)
	if e != api.OK {
		return e
	}
	s.change(item{x.thing, seal, x.room})
	e = s.write(api.Record{Kind: api.RecLook, Room: x.room, Thing: x.thing.Id, Fact: x.fact, Look: l, Piece: piece})
	for layer := x.seal.Opened + 1; e == api.OK && layer <= seal.Opened; layer++ {
		e = s.write(api.Record{Kind: api.RecMoney, Room: x.room, Thing: x.thing.Id, Verdict: api.WhyDeposit, N: layer, Goods: x.thing.Layers[layer-1].Goods})
	}
	return e
}

// handOut hands a thing out to the person to whom its route leads, and pays what was found in it.
func (s *draft) handOut(x scene, kind uint8, v api.Verdict) api.Errno {
	thing, person := x.thing.Id, v.Route.End.Person
	s.keep = func(note string) api.Errno { return s.keeper.Leave([]int{thing}, note) }
	e := s.write(api.Record{Kind: kind, Room: x.room, Thing: thing, Person: person, Place: v.Place})
	if e != api.OK || len(s.openLots(thing)) == 0 {
		return e
	}
	return s.write(api.Record{Kind: api.RecMoney, Room: x.room, Thing: thing, Verdict: api.WhyPay, Person: person})
}
