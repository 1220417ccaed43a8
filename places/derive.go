package places

import (
	"strings"

	"restante/api"
)

// never is the cost of what cannot be. It is greater than every cost that can be, and small enough that costs may be added to it.
const never = 1 << 60

// spot is a place in a derivation: so many bytes of the name were read, and so many of the text written.
type spot struct{ read, written int }

// scribe writes a name as a text by rules.
type scribe struct {
	name, text string
	rules      []api.Spell
	costs      map[spot]int // what rest has found
}

// uses reports whether a rule may be used at a spot, and the spot behind it.
func (s *scribe) uses(rule api.Spell, at spot) (spot, bool) {
	may := strings.HasPrefix(s.name[at.read:], rule.From) && strings.HasPrefix(s.text[at.written:], rule.To)
	return spot{at.read + len(rule.From), at.written + len(rule.To)}, may
}

// copies reports whether the next letter may be written as it is, and the spot behind it.
func (s *scribe) copies(at spot) (spot, bool) {
	may := at.read < len(s.name) && at.written < len(s.text) && s.name[at.read] == s.text[at.written]
	return spot{at.read + 1, at.written + 1}, may
}

// isCopy reports whether the rest of the text is the rest of the name.
func (s *scribe) isCopy(at spot) bool { return s.name[at.read:] == s.text[at.written:] }

// rest returns the least cost for writing the rest of the text from a spot on, or never.
func (s *scribe) rest(at spot) int {
	if s.isCopy(at) {
		return 0
	}
	if cost, known := s.costs[at]; known {
		return cost
	}
	least := never
	if next, may := s.copies(at); may {
		least = s.rest(next)
	}
	for _, rule := range s.rules {
		if next, may := s.uses(rule, at); may {
			least = min(least, rule.Cost+s.rest(next))
		}
	}
	s.costs[at] = least
	return least
}

// first returns the first one of the cheapest derivations; there must be one.
func (s *scribe) first() []api.SpellUse {
	var list []api.SpellUse
	at := spot{}
search:
	for !s.isCopy(at) {
		for i, rule := range s.rules {
			next, may := s.uses(rule, at)
			if may && rule.Cost+s.rest(next) == s.rest(at) {
				list = append(list, api.SpellUse{At: at.read, Rule: i})
				at = next
				continue search
			}
		}
		at, _ = s.copies(at)
	}
	return list
}

// Written returns the cost of a spelling of a name, and the first one of the derivations of this cost.
func Written(name, text string, l []api.Spell) (int, []api.SpellUse, api.Errno) {
	if e := checkSpelling(name, l); e != api.OK {
		return 0, nil, e
	}
	s := &scribe{name: name, text: text, rules: l, costs: map[spot]int{}}
	cost := s.rest(spot{})
	if cost == never {
		return 0, nil, api.ErrNone
	}
	return cost, s.first(), api.OK
}

// CheckUses returns the cost of a derivation that writes a text.
func CheckUses(name, text string, l []api.Spell, uses []api.SpellUse) (int, api.Errno) {
	if e := checkSpelling(name, l); e != api.OK {
		return 0, e
	}
	cost, read := 0, 0
	var written strings.Builder
	for _, use := range uses {
		if use.Rule < 0 || use.Rule >= len(l) || use.At < read || use.At >= len(name) {
			return 0, api.ErrArg
		}
		rule := l[use.Rule]
		if !strings.HasPrefix(name[use.At:], rule.From) {
			return 0, api.ErrArg
		}
		written.WriteString(name[read:use.At])
		written.WriteString(rule.To)
		read = use.At + len(rule.From)
		cost += rule.Cost
	}
	written.WriteString(name[read:])
	if written.String() != text {
		return 0, api.ErrNone
	}
	return cost, api.OK
}
