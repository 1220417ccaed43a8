package court

import (
	"slices"

	"restante/api"
)

// readOthers looks for a breach at the records of the thing that are not in its story.
func (t *trial) readOthers(thing int) {
	told := map[api.Ref]bool{}
	for _, ref := range t.story {
		told[ref] = true
	}
	list := slices.DeleteFunc(join(t.journals), func(ref api.Ref) bool { return at(t.journals, ref).Thing != thing })
	// refuse leaves the trial at the first record that is wrong.
	refuse := func(what uint8, wrong func(ref api.Ref, r api.Record) bool) {
		for _, ref := range list {
			if wrong(ref, at(t.journals, ref)) {
				panic(breach{ref, what})
			}
		}
	}
	refuse(api.BreachCustody, func(ref api.Ref, r api.Record) bool { return isOfStory(r) && !told[ref] })
	refuse(api.BreachMoney, func(ref api.Ref, r api.Record) bool {
		return r.Kind == api.RecMoney && r.Verdict == api.WhyPay && !t.isHandedOut(r)
	})
	refuse(api.BreachClaim, func(ref api.Ref, r api.Record) bool {
		return r.Kind == api.RecAnswer && !isOfOpenClaim(t.journals[ref.Journal], r)
	})
}

// isHandedOut reports whether the story hands out the thing to the person of a payment, in the same journal before it.
func (t *trial) isHandedOut(payment api.Record) bool {
	for _, ref := range t.story {
		r := at(t.journals, ref)
		if (r.Kind == api.RecDeliver || r.Kind == api.RecReturn) && r.Office == payment.Office && r.Seq < payment.Seq && r.Person == payment.Person {
			return true
		}
	}
	return false
}

// isOfOpenClaim reports whether an answer in a journal is the first one behind its claim.
func isOfOpenClaim(l []api.Record, answer api.Record) bool {
	for i := answer.Seq - 1; i >= 0; i-- {
		if l[i].Thing != answer.Thing || l[i].N != answer.N {
			continue
		}
		switch l[i].Kind {
		case api.RecClaim:
			return true
		case api.RecAnswer:
			return false
		}
	}
	return false
}
