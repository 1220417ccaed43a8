package custody

import (
	"maps"
	"slices"

	"restante/api"
)

// state is what the operations of an office change.
type state struct {
	id       int
	held     map[int]string // the Bodies of tokens by their Ids
	lost     map[int]bool
	bags     [api.MaxOffices][]api.Bag // those for each office that were not acknowledged
	shipped  [api.MaxOffices]int
	received [api.MaxOffices]int
	notes    []string
}

func (s *state) holds(id int) bool {
	_, ok := s.held[id]
	return ok
}

// knows reports whether an Id may not enter.
func (s *state) knows(id int) bool {
	if s.holds(id) || s.lost[id] {
		return true
	}
	hasId := func(t api.Token) bool { return t.Id == id }
	for _, bags := range s.bags {
		if slices.ContainsFunc(bags, func(b api.Bag) bool { return slices.ContainsFunc(b.Tokens, hasId) }) {
			return true
		}
	}
	return false
}

// awaits returns the index of the bag that a message acknowledges among those for its office; -1 if there is none.
func (s *state) awaits(x message) int {
	if x.word != gotWord {
		return -1
	}
	return slices.IndexFunc(s.bags[x.bag.From], func(b api.Bag) bool { return b.Seq == x.bag.Seq })
}

// matters reports whether a message for this office has an effect.
func (s *state) matters(x message) bool {
	if x.word == bagWord {
		return x.bag.Seq == s.received[x.bag.From]+1
	}
	return s.awaits(x) >= 0
}

// answer returns the answer to a message that was heard.
func (s *state) answer(x message) string {
	if x.word != bagWord || x.bag.Seq > s.received[x.bag.From] {
		return ""
	}
	return message{gotWord, api.Bag{From: s.id, To: x.bag.From, Seq: x.bag.Seq}}.text()
}

// refuses returns the error of an operation.
func (s *state) refuses(x operation) api.Errno {
	switch x.kind {
	case entering, changing:
		if e := s.refusesToken(x); e != api.OK {
			return e
		}
	case noting:
		if x.note == "" {
			return api.ErrArg
		}
	case shipping:
		if !isOffice(x.to) || x.to == s.id {
			return api.ErrArg
		}
		if s.shipped[x.to] >= api.MaxSeq {
			return api.ErrLimit
		}
		return s.refusesIds(x)
	case hearing:
		if x.what.bag.To != s.id {
			return api.ErrArg
		}
		if !s.matters(x.what) {
			return api.ErrNone
		}
	case burning, leaving:
		return s.refusesIds(x)
	default:
		return api.ErrForm
	}
	return refusesNote(x.note)
}

func refusesNote(note string) api.Errno {
	if len(note) > api.MaxNote {
		return api.ErrLimit
	}
	return api.OK
}

func (s *state) refusesToken(x operation) api.Errno {
	switch {
	case !isToken(x.token):
		return api.ErrArg
	case x.kind == entering && s.knows(x.token.Id):
		return api.ErrTwice
	case x.kind == changing && !s.holds(x.token.Id):
		return api.ErrNone
	}
	return api.OK
}

// refusesIds returns the error of the Ids and of the note.
func (s *state) refusesIds(x operation) api.Errno {
	if !within(len(x.ids), 1, api.MaxBag) {
		return api.ErrLimit
	}
	if e := refusesNote(x.note); e != api.OK {
		return e
	}
	for i, id := range x.ids {
		if slices.Contains(x.ids[:i], id) {
			return api.ErrTwice
		}
	}
	for _, id := range x.ids {
		if !s.holds(id) {
			return api.ErrNone
		}
	}
	return api.OK
}

// apply does an operation that was not refused.
func (s *state) apply(x operation) {
	switch x.kind {
	case entering, changing:
		s.held[x.token.Id] = x.token.Body
	case shipping:
		s.ship(x.to, x.ids)
	case hearing:
		s.hear(x.what)
	case burning:
		s.release(x.ids)
		for _, id := range x.ids {
			s.lost[id] = true
		}
	case leaving:
		s.release(x.ids)
	}
	if x.note != "" {
		s.notes = append(s.notes, x.note)
	}
}

// release returns tokens, in increasing order of their Ids, that are not held any more.
func (s *state) release(ids []int) []api.Token {
	var tokens []api.Token
	for _, id := range slices.Sorted(slices.Values(ids)) {
		tokens = append(tokens, api.Token{Id: id, Body: s.held[id]})
		delete(s.held, id)
	}
	return tokens
}

func (s *state) ship(to int, ids []int) {
	s.shipped[to]++
	bag := api.Bag{From: s.id, To: to, Seq: s.shipped[to], Tokens: s.release(ids)}
	s.bags[to] = append(s.bags[to], bag)
}

// hear does what a message that matters says.
func (s *state) hear(x message) {
	from := x.bag.From
	if at := s.awaits(x); at >= 0 {
		s.bags[from] = slices.Delete(s.bags[from], at, at+1)
		return
	}
	s.received[from]++
	for _, t := range x.bag.Tokens {
		s.held[t.Id] = t.Body
	}
}

// tokens returns the tokens that are held, in increasing order of their Ids.
func (s *state) tokens() []api.Token {
	var tokens []api.Token
	for _, id := range slices.Sorted(maps.Keys(s.held)) {
		tokens = append(tokens, api.Token{Id: id, Body: s.held[id]})
	}
	return tokens
}
