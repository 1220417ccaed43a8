package court

import (
	"restante/api"
	"restante/judge"
	"restante/seals"
)

// scene is what the room of a record knows.
type scene struct {
	c      api.Case
	policy api.Policy
	fact   api.Fact
}

// scene returns what the room of a record knows if a seal tells what it was shown.
func (t *trial) scene(r api.Record, seal api.Seal) scene {
	p := t.past(r.Office)
	books, ok := p.booksBefore(r.Seq)
	t.require(ok, api.BreachBook)
	policy, ok := p.policyBefore(r.Seq)
	t.require(ok, api.BreachRules)
	c := api.Case{Books: books, Thing: t.thing, Made: shownTo(seal, r.Room), Opened: seals.Depth(seal, r.Room), Day: r.Day, Weights: policy.Weights}
	fact := api.Fact{Room: r.Room, Layer: 1, Days: r.Day - t.thing.Day, Claim: Pending(p.records[:r.Seq], r.Thing)}
	fact.To, _ = judge.Count(c, api.RoleTo)
	fact.From, _ = judge.Count(c, api.RoleFrom)
	return scene{c, policy, fact}
}

// verdict returns the verdict of the room.
func (s scene) verdict(seal api.Seal) api.Verdict {
	s.c.May, _ = seals.Allowed(s.c.Thing, seal, s.policy, s.fact)
	v, _ := judge.Decide(s.c)
	return v
}

func (t *trial) past(journal int) *past {
	if t.pasts[journal] == nil {
		t.pasts[journal] = pastOf(t.journals[journal])
	}
	return t.pasts[journal]
}

// shownTo returns the looks that a room was shown.
func shownTo(s api.Seal, room int) []api.Look {
	for _, x := range s.Rooms {
		if x.Room == room {
			return x.Looks
		}
	}
	return nil
}
