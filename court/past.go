package court

import "restante/api"

// past is what a journal says before each of its records.
type past struct {
	records  []api.Record
	books    api.Books // with all lines that are entered
	sizes    []sizes   // of the books before a record; there are none behind a line that is refused
	policies policies
}

// sizes is how long the lists of books are.
type sizes struct{ places, spells, people int }

func pastOf(l []api.Record) *past {
	p := &past{records: l, policies: policies{}}
	c := newClerk()
	for _, r := range l {
		p.sizes = append(p.sizes, sizes{len(c.books.Places), len(c.books.Spells), len(c.books.People)})
		if r.Kind == api.RecBook && c.enter(r.Text) != api.OK {
			break
		}
		p.books = c.books
	}
	return p
}

// booksBefore returns what Books returns for the records before an index, and whether no line is refused.
func (p *past) booksBefore(i int) (api.Books, bool) {
	if i >= len(p.sizes) {
		return api.Books{}, false
	}
	n := p.sizes[i]
	return api.Books{Places: p.books.Places[:n.places], Spells: p.books.Spells[:n.spells], People: p.books.People[:n.people]}, true
}

// policyBefore returns what Policy returns for the records before an index.
func (p *past) policyBefore(i int) (api.Policy, bool) {
	at := lastRules(p.records[:i])
	if at < 0 {
		return api.Policy{}, false
	}
	return p.policies.of(at, p.records[at].Text)
}
