package judge

import (
	"slices"

	"restante/api"
	"restante/people"
)

// trial is an inquiry with the candidates left for either role.
type trial struct {
	q        *inquiry
	to, from rivals
}

func trialOf(q *inquiry) trial {
	return trial{q: q, to: q.rivals(api.RoleTo), from: q.rivals(api.RoleFrom)}
}

func (t trial) rivals(role int) rivals {
	if role == api.RoleTo {
		return t.to
	}
	return t.from
}

// outcome is a kind of verdicts, and the role that it is about, if there is one.
type outcome struct {
	kind uint8
	role int
}

// outcome returns the first outcome that applies. Whether there is a plan is seen without a search for the least one.
func (t trial) outcome() outcome {
	kinds := []func() (outcome, bool){
		func() (outcome, bool) { return outcome{api.VerDeliver, api.RoleTo}, t.to.isOne() },
		func() (outcome, bool) { return outcome{api.VerReturn, api.RoleFrom}, t.from.isOne() },
		func() (outcome, bool) { return outcome{api.VerLook, api.RoleTo}, t.to.invitesLook() },
		func() (outcome, bool) { return outcome{api.VerLook, api.RoleFrom}, t.from.invitesLook() },
		func() (outcome, bool) { return outcome{kind: api.VerMany}, t.to.tooMany() || t.from.tooMany() },
	}
	for _, kind := range kinds {
		if o, applies := kind(); applies {
			return o
		}
	}
	return outcome{kind: api.VerKeep}
}

// Decide returns the verdict of a case.
func Decide(c api.Case) (api.Verdict, api.Errno) {
	q, e := inquire(c)
	if e != api.OK {
		return api.Verdict{}, e
	}
	return trialOf(q).decide(), api.OK
}

func (t trial) decide() api.Verdict {
	o := t.outcome()
	v := api.Verdict{Kind: o.kind, To: t.q.certify(api.RoleTo), From: t.q.certify(api.RoleFrom)}
	switch o.kind {
	case api.VerDeliver, api.VerReturn:
		who, sender := t.sending(o.role)
		v.Who = who
		// The numbers of a candidate and a day of a valid case have no error.
		v.Route, _ = people.Follow(t.q.c.Books.People, who, sender, t.q.c.Day)
		v.Place = t.q.house(v.Route)
	case api.VerLook:
		v.Plan, _ = t.rivals(o.role).least()
		v.Look = v.Plan.Looks[0]
	}
	return v
}

// sending returns to whom a thing goes if one person is left for a role, and the person from whom it comes; 0 if nobody is known to have sent it to this one.
func (t trial) sending(role int) (who api.Candidate, sender int) {
	if role == api.RoleFrom {
		return t.from.left[0], 0
	}
	if t.from.isOne() {
		sender = t.from.left[0].Person
	}
	return t.to.left[0], sender
}

// house returns the place in which that of the house goes on to which a route leads; 0 if it does not lead to a house.
func (q *inquiry) house(r api.Route) int {
	if r.Kind != api.RouteHouse {
		return 0
	}
	return q.g.GoesOn(r.End.Place, q.c.Day)
}

// CheckVerdict reports whether a verdict is justified.
func CheckVerdict(c api.Case, v api.Verdict) (bool, api.Errno) {
	q, e := inquire(c)
	if e != api.OK {
		return false, e
	}
	return trialOf(q).approves(v), api.OK
}

func (t trial) approves(v api.Verdict) bool {
	o := t.outcome()
	if v.Kind != o.kind || !t.q.certified(api.RoleTo, v.To) || !t.q.certified(api.RoleFrom, v.From) {
		return false
	}
	switch o.kind {
	case api.VerDeliver, api.VerReturn:
		return looksNowhere(v) && t.approvesSending(v, o.role)
	case api.VerLook:
		return sendsNowhere(v) && len(v.Plan.Looks) > 0 && v.Look == v.Plan.Looks[0] && t.rivals(o.role).justify(v.Plan)
	}
	return looksNowhere(v) && sendsNowhere(v)
}

func (t trial) approvesSending(v api.Verdict, role int) bool {
	who, sender := t.sending(role)
	return v.Who == who && people.CheckRoute(t.q.c.Books.People, who, sender, t.q.c.Day, v.Route) && v.Place == t.q.house(v.Route)
}

// looksNowhere reports whether the fields of a verdict that asks for no look are zero.
func looksNowhere(v api.Verdict) bool {
	return v.Look == api.Look{} && len(v.Plan.Looks) == 0 && v.Plan.Intrusion == 0 && len(v.Plan.Rungs) == 0
}

// sendsNowhere reports whether the fields of a verdict by which the thing goes to nobody are zero.
func sendsNowhere(v api.Verdict) bool {
	r := v.Route
	return v.Who == api.Candidate{} && v.Place == 0 && r.Kind == 0 && r.End == api.Candidate{} && len(r.Hops) == 0 && r.Back == 0
}

// Doubt returns the other candidates who are left for the role of a verdict by which a thing went, by later books on a later day.
func Doubt(c api.Case, v api.Verdict, later api.Books, day int) ([]api.Candidate, api.Errno) {
	if e := Check(c); e != api.OK {
		return nil, e
	}
	if day < c.Day {
		return nil, api.ErrTime
	}
	role := api.RoleTo
	switch v.Kind {
	case api.VerDeliver:
	case api.VerReturn:
		role = api.RoleFrom
	default:
		return nil, api.ErrArg
	}
	c.Books, c.Day = later, day
	q, e := inquire(c)
	if e != api.OK {
		return nil, e
	}
	return slices.DeleteFunc(q.left(role), func(who api.Candidate) bool { return who.Person == v.Who.Person }), api.OK
}
