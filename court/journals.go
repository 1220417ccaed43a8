package court

import (
	"cmp"
	"slices"

	"restante/api"
)

// checkJournals returns the error with which all functions that take journals begin.
func checkJournals(journals [][]api.Record) api.Errno {
	if len(journals) > api.MaxOffices {
		return api.ErrLimit
	}
	for q, l := range journals {
		if e := checkJournal(l, q); e != api.OK {
			return e
		}
	}
	return api.OK
}

func checkJournal(l []api.Record, office int) api.Errno {
	if len(l) > api.MaxRecords {
		return api.ErrLimit
	}
	for i, r := range l {
		if !isRecord(r) || r.Seq != i || r.Office != office {
			return api.ErrArg
		}
		if i > 0 && r.Day < l[i-1].Day {
			return api.ErrTime
		}
	}
	return api.OK
}

// Join returns refs to all records of journals, in order.
func Join(journals [][]api.Record) ([]api.Ref, api.Errno) {
	if e := checkJournals(journals); e != api.OK {
		return nil, e
	}
	return join(journals), api.OK
}

func join(journals [][]api.Record) []api.Ref {
	var refs []api.Ref
	for q, l := range journals {
		for i := range l {
			refs = append(refs, api.Ref{Journal: q, Index: i})
		}
	}
	slices.SortFunc(refs, func(a, b api.Ref) int {
		return compareRefs(at(journals, a).Day, at(journals, b).Day, a, b)
	})
	return refs
}

func at(journals [][]api.Record, x api.Ref) api.Record { return journals[x.Journal][x.Index] }

// compareRefs compares refs to records with two days in the order of Join.
func compareRefs(day, otherDay int, x, other api.Ref) int {
	return cmp.Or(cmp.Compare(day, otherDay), cmp.Compare(x.Journal, other.Journal), cmp.Compare(x.Index, other.Index))
}

// isOfStory reports whether a record is a story record of its thing.
func isOfStory(r api.Record) bool {
	switch r.Kind {
	case api.RecMoney:
		return r.Verdict == api.WhyDeposit
	case api.RecReceive:
		return true
	}
	return within(int(r.Kind), int(api.RecArrive), int(api.RecLoss))
}

// Story returns the story of a thing.
func Story(journals [][]api.Record, thing int) ([]api.Ref, api.Errno) {
	if e := checkJournals(journals); e != api.OK {
		return nil, e
	}
	return storyOf(journals, thing), api.OK
}

func storyOf(journals [][]api.Record, thing int) []api.Ref {
	s := teller{journals: journals, thing: thing, told: map[api.Ref]bool{}}
	var story []api.Ref
	for ref, ok := s.beginning(); ok; ref, ok = s.behind(ref) {
		story = append(story, ref)
		s.told[ref] = true
	}
	return story
}

// teller finds the records of a story one behind the other.
type teller struct {
	journals [][]api.Record
	thing    int
	told     map[api.Ref]bool // the story so far
}

func (s *teller) beginning() (api.Ref, bool) {
	for _, ref := range join(s.journals) {
		if r := at(s.journals, ref); r.Kind == api.RecArrive && r.Thing == s.thing {
			return ref, true
		}
	}
	return api.Ref{}, false
}

// behind returns what follows a record of the story, and whether there is something.
func (s *teller) behind(ref api.Ref) (api.Ref, bool) {
	r := at(s.journals, ref)
	if r.Kind != api.RecShip {
		return s.first(ref.Journal, ref.Index+1, isOfStory)
	}
	return s.first(r.Place, 0, func(x api.Record) bool {
		return x.Kind == api.RecReceive && x.Place == r.Office && x.N == r.N && !s.told[api.Ref{Journal: x.Office, Index: x.Seq}]
	})
}

// first returns the first record of the thing in a journal, from an index on, that is wanted; and whether there is one.
func (s *teller) first(journal, from int, wanted func(r api.Record) bool) (api.Ref, bool) {
	if journal >= len(s.journals) {
		return api.Ref{}, false
	}
	l := s.journals[journal]
	for i := from; i < len(l); i++ {
		if l[i].Thing == s.thing && wanted(l[i]) {
			return api.Ref{Journal: journal, Index: i}, true
		}
	}
	return api.Ref{}, false
}
