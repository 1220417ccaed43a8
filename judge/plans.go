package judge

import (
	"cmp"
	"slices"

	"restante/api"
)

// set is some of the looks of a valid thing, by their indices in the list of all its looks.
type set [api.MaxPieces]bool

// with returns the set that has a look of the thing too.
func (q *inquiry) with(s set, l api.Look) set {
	s[slices.Index(q.looks, l)] = true
	return s
}

func (q *inquiry) setOf(looks []api.Look) set {
	var s set
	for _, l := range looks {
		s = q.with(s, l)
	}
	return s
}

// looksIn returns the looks of a set, in ascending order.
func (q *inquiry) looksIn(s set) []api.Look {
	var looks []api.Look
	for i, l := range q.looks {
		if s[i] {
			looks = append(looks, l)
		}
	}
	return looks
}

// Least returns the first one of the plans of least intrusion for a role, if there is a plan.
func Least(c api.Case, role int) (api.Plan, bool, api.Errno) {
	q, e := inquireAs(c, role)
	if e != api.OK {
		return api.Plan{}, false, e
	}
	r := q.rivals(role)
	if r.tooMany() {
		return api.Plan{}, false, api.ErrLimit
	}
	p, is := r.least()
	return p, is, api.OK
}

// step is a set of usable looks that was reached.
type step struct {
	set       set
	looks     []api.Look
	intrusion int
}

func (q *inquiry) stepTo(s set) step {
	looks := q.looksIn(s)
	return step{set: s, looks: looks, intrusion: q.intrusion(looks)}
}

func compareSteps(a, b step) int {
	return cmp.Or(cmp.Compare(a.intrusion, b.intrusion), compareSets(a.looks, b.looks))
}

// least returns the first one of the plans of least intrusion, if there is a plan.
//
// Such a plan is reached, since it tells apart whichever two candidates a part of it does not; and each look adds to the intrusion. So it is the first set that separates, of those that are reached, taken by their intrusion and then in their order.
func (r rivals) least() (api.Plan, bool) {
	usable := r.usable()
	var rungs []api.Rung
	waiting := []step{r.q.stepTo(set{})}
	met := map[set]bool{}
	for len(waiting) > 0 {
		s := waiting[0]
		waiting = waiting[1:]
		a, b, ok := r.separate(s.looks)
		if ok {
			return r.planOf(s, rungs), true
		}
		rungs = append(rungs, api.Rung{Looks: s.looks, A: a, B: b})
		for _, l := range usable {
			more := r.q.with(s.set, l)
			if met[more] || !r.tells(l, a, b) {
				continue
			}
			met[more] = true
			next := r.q.stepTo(more)
			at, _ := slices.BinarySearchFunc(waiting, next, compareSteps)
			waiting = slices.Insert(waiting, at, next)
		}
	}
	return api.Plan{}, false
}

// planOf returns the plan of a set that separates; rungs are the sets that were taken before it.
func (r rivals) planOf(s step, rungs []api.Rung) api.Plan {
	below := slices.DeleteFunc(rungs, func(x api.Rung) bool { return r.q.intrusion(x.Looks) >= s.intrusion })
	slices.SortFunc(below, compareRungs)
	return api.Plan{Looks: s.looks, Intrusion: s.intrusion, Rungs: below}
}

// CheckPlan reports whether a plan for a role is one, and its rungs show that none has a lesser intrusion.
func CheckPlan(c api.Case, role int, p api.Plan) (bool, api.Errno) {
	q, e := inquireAs(c, role)
	if e != api.OK {
		return false, e
	}
	r := q.rivals(role)
	if r.tooMany() {
		return false, api.ErrLimit
	}
	return r.justify(p), api.OK
}

func (r rivals) justify(p api.Plan) bool {
	usable := r.usable()
	if !isPart(p.Looks, usable) || p.Intrusion != r.q.intrusion(p.Looks) {
		return false
	}
	if _, _, ok := r.separate(p.Looks); !ok {
		return false
	}
	rungs := map[set]bool{}
	for _, x := range p.Rungs {
		if !isPart(x.Looks, usable) {
			return false
		}
		rungs[r.q.setOf(x.Looks)] = true
	}
	if !ascends(p.Rungs, compareRungs) || p.Intrusion != 0 && !rungs[set{}] {
		return false
	}
	return !slices.ContainsFunc(p.Rungs, func(x api.Rung) bool {
		return !r.bears(x, func(s step) bool { return s.intrusion >= p.Intrusion || rungs[s.set] })
	})
}

// isPart reports whether looks are a set of usable looks.
func isPart(looks, usable []api.Look) bool {
	for _, l := range looks {
		if !slices.Contains(usable, l) {
			return false
		}
	}
	return ascends(looks, compareLooks)
}

// bears reports whether a rung has two candidates that it does not tell apart, and all steps from it that do are sound.
func (r rivals) bears(x api.Rung, sound func(step) bool) bool {
	if !slices.Contains(r.left, x.A) || !slices.Contains(r.left, x.B) || x.A.Person == x.B.Person || r.tell(x.Looks, x.A, x.B) {
		return false
	}
	from := r.q.setOf(x.Looks)
	for _, l := range r.usable() {
		if r.tells(l, x.A, x.B) && !sound(r.q.stepTo(r.q.with(from, l))) {
			return false
		}
	}
	return true
}
