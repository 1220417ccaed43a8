package court

import (
	"slices"

	"restante/api"
)

// Party reports whether a person is a party to a thing.
func Party(journals [][]api.Record, person, thing int) (bool, api.Errno) {
	if e := checkJournals(journals); e != api.OK {
		return false, e
	}
	return isParty(journals, person, thing), api.OK
}

func isParty(journals [][]api.Record, person, thing int) bool {
	return hasRecord(journals, func(r *api.Record) bool {
		return r.Thing == thing && r.Person == person && namesParty(r)
	})
}

// namesParty reports whether the person of a record is a party to its thing.
func namesParty(r *api.Record) bool {
	switch r.Kind {
	case api.RecDeliver, api.RecReturn:
		return true
	case api.RecVerdict:
		return r.Verdict == api.VerDeliver || r.Verdict == api.VerReturn
	}
	return false
}

// hasRecord reports whether a record of journals is wanted.
func hasRecord(journals [][]api.Record, wanted func(r *api.Record) bool) bool {
	for _, l := range journals {
		for i := range l {
			if wanted(&l[i]) {
				return true
			}
		}
	}
	return false
}

// checkClaim returns the error with which functions that take journals and a claim begin.
func checkClaim(journals [][]api.Record, c api.Claim) api.Errno {
	if e := checkJournals(journals); e != api.OK {
		return e
	}
	isMade := hasRecord(journals, func(r *api.Record) bool {
		return r.Kind == api.RecClaim && c == api.Claim{Id: r.N, Day: r.Day, Person: r.Person, Thing: r.Thing, Ask: r.Verdict}
	})
	if !isMade {
		return api.ErrNone
	}
	return api.OK
}

// Answer returns the ruling on a claim.
func Answer(journals [][]api.Record, c api.Claim) (api.Ruling, api.Errno) {
	if e := checkClaim(journals, c); e != api.OK {
		return api.Ruling{}, e
	}
	if !isParty(journals, c.Person, c.Thing) {
		return api.Ruling{Answer: api.AnswerNothing}, api.OK
	}
	ruling, e := Audit(journals, c.Thing)
	ruling.Reasons = slices.DeleteFunc(ruling.Reasons, func(x api.Reason) bool {
		return !isAsked(c.Ask, at(journals, x.Ref).Kind)
	})
	slices.SortStableFunc(ruling.Reasons, func(x, y api.Reason) int {
		return compareRefs(at(journals, x.Ref).Day, at(journals, y.Ref).Day, x.Ref, y.Ref)
	})
	return ruling, e
}

// isAsked reports whether the reasons of records of a kind belong to the answer to a question.
func isAsked(ask, kind uint8) bool {
	switch kind {
	case api.RecLook:
		return ask == api.AskOpened
	case api.RecKeep:
		return ask == api.AskKept
	case api.RecDeliver, api.RecReturn:
		return ask == api.AskSent
	}
	return false
}

// isBase reports whether every claimant may know a field of the records of a thing.
func isBase(field int) bool {
	switch field {
	case seqField, dayField, officeField, kindField, thingField:
		return true
	}
	return false
}

// May returns the fields of a record that a claimant may know.
func May(journals [][]api.Record, c api.Claim, ref api.Ref) ([]int, api.Errno) {
	if e := checkClaim(journals, c); e != api.OK {
		return nil, e
	}
	if !within(ref.Journal, 0, len(journals)-1) || !within(ref.Index, 0, len(journals[ref.Journal])-1) {
		return nil, api.ErrArg
	}
	return mayKnow(c, isParty(journals, c.Person, c.Thing), at(journals, ref)), api.OK
}

// mayKnow returns the fields of a record that the claimant, perhaps a party to the thing, may know.
func mayKnow(c api.Claim, party bool, r api.Record) []int {
	isOpen := r.Kind == api.RecRules || r.Kind == api.RecBook
	if !isOpen && r.Thing != c.Thing {
		return nil
	}
	isOther := (r.Kind == api.RecClaim || r.Kind == api.RecAnswer) && r.N != c.Id
	var list []int
	for i := range fieldCount {
		if isOpen || isBase(i) || party && (!isOther || i == nField) {
			list = append(list, i)
		}
	}
	return list
}
