package court

import (
	"restante/api"
	"restante/seals"
)

// Policy returns the policy of the last rules in a list of records, and whether there is one.
func Policy(l []api.Record) (api.Policy, bool) {
	i := lastRules(l)
	if i < 0 {
		return api.Policy{}, false
	}
	return policyOf(l[i].Text)
}

// lastRules returns the index of the last record of rules; -1 if there is none.
func lastRules(l []api.Record) int {
	i := len(l) - 1
	for i >= 0 && l[i].Kind != api.RecRules {
		i--
	}
	return i
}

// policyOf returns the policy of a source, and whether there is one.
func policyOf(source string) (api.Policy, bool) {
	rules, fault := seals.Parse(source)
	if fault.Err != api.OK {
		return api.Policy{}, false
	}
	p, _, e := seals.Compile(rules)
	return p, e == api.OK
}

// policies are the policies of records of rules, each compiled once, by the indices of the records.
type policies map[int]ruleset

// ruleset is the policy of some rules, and whether there is one.
type ruleset struct {
	policy api.Policy
	ok     bool
}

// of returns the policy of the source that the record with an index has, and whether there is one.
func (p policies) of(i int, source string) (api.Policy, bool) {
	known, met := p[i]
	if !met {
		known.policy, known.ok = policyOf(source)
		p[i] = known
	}
	return known.policy, known.ok
}

// Pending reports whether a claim about a thing is not answered in a list of records.
func Pending(l []api.Record, thing int) bool {
	open := map[int]bool{}
	for _, r := range l {
		if r.Thing != thing {
			continue
		}
		switch r.Kind {
		case api.RecClaim:
			open[r.N] = true
		case api.RecAnswer:
			delete(open, r.N)
		}
	}
	return len(open) > 0
}
