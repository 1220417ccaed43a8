package desk

import (
	"restante/api"
	"restante/court"
	"restante/custody"
	"restante/judge"
	"restante/seals"
)

// item is a thing that an office has: what was shown of it, and its room. At the door, these are those of the office from which it came.
type item struct {
	thing api.Thing
	seal  api.Seal
	room  int
}

// itemOf returns the item that a token is.
func itemOf(t api.Token) item {
	thing, seal, room, _ := seals.GetThing(t.Body)
	return item{thing, seal, room}
}

// itemWith returns the item with an Id among those that an office holds, and whether there is one.
func itemWith(keeper *custody.Office, id int) (item, bool) {
	for _, t := range keeper.Held() {
		if t.Id == id {
			return itemOf(t), true
		}
	}
	return item{}, false
}

// isAtDoor reports whether a thing that the office has is at the door.
func (s *state) isAtDoor(thing int) bool {
	_, ok := s.doors[thing]
	return ok
}

// inRoom returns a thing that the office has in a room, and whether there is one.
func (s *draft) inRoom(thing int) (item, bool) {
	if s.isAtDoor(thing) {
		return item{}, false
	}
	return itemWith(s.keeper, thing)
}

// change gives a thing that the office has another seal or room.
func (s *draft) change(x item) {
	s.keep = func(note string) api.Errno {
		text, e := seals.PutThing(x.thing, x.seal, x.room)
		if e != api.OK {
			return e
		}
		return s.keeper.Change(api.Token{Id: x.thing.Id, Body: text}, note)
	}
}

// scene is what a room knows of a thing, and what is done there.
type scene struct {
	item
	policy api.Policy
	c      api.Case
	fact   api.Fact
}

// sceneOf returns the scene of a room in which a thing may be, by the looks that it was shown.
func (s *draft) sceneOf(x item, room int) scene {
	c := api.Case{Books: s.books, Thing: x.thing, Made: shownTo(x.seal, room), Opened: seals.Depth(x.seal, room), Day: s.today, Weights: s.policy.Weights}
	fact := api.Fact{Room: room, Layer: 1, Days: s.today - x.thing.Day, Claim: court.Pending(s.records, x.thing.Id)}
	// The numbers of persons do not depend on what may be looked at.
	fact.To, _ = judge.Count(c, api.RoleTo)
	fact.From, _ = judge.Count(c, api.RoleFrom)
	return scene{x, s.policy, c, fact}
}

// shownTo returns the looks that a room was shown.
func shownTo(s api.Seal, room int) []api.Look {
	for _, x := range s.Rooms {
		if x.Room == room {
			return x.Looks
		}
	}
	return nil
}

// verdict returns the verdict of the room.
func (x scene) verdict() (api.Verdict, api.Errno) {
	may, e := seals.Allowed(x.thing, x.seal, x.policy, x.fact)
	if e != api.OK {
		return api.Verdict{}, e
	}
	x.c.May = may
	return judge.Decide(x.c)
}
