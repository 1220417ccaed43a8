package seals

import (
	"maps"
	"slices"

	"restante/api"
)

func validWeights(weights [3]int) bool {
	for _, weight := range weights {
		if !within(weight, 0, api.MaxWeight) {
			return false
		}
	}
	return true
}

func validFact(f api.Fact) bool {
	return isRoom(f.Room) && within(f.Layer, 1, api.MaxLayers) && within(f.Days, 0, api.MaxDay) &&
		f.To <= api.LeftMany && f.From <= api.LeftMany
}

// CheckRules returns the error of rules.
func CheckRules(r api.Rules) api.Errno {
	if !validWeights(r.Weights) {
		return api.ErrArg
	}
	if len(r.List) > api.MaxRules {
		return api.ErrLimit
	}
	ops, names := allOperators(), map[string]bool{}
	for _, x := range r.List {
		if e := checkRule(x, ops, names); e != api.OK {
			return e
		}
		names[x.Name] = true
	}
	return api.OK
}

// checkRule returns the error of a rule behind rules with these names.
func checkRule(x api.Rule, ops operators, names map[string]bool) api.Errno {
	if !isWord(x.Name) {
		return api.ErrForm
	}
	if names[x.Name] {
		return api.ErrTwice
	}
	if !within(x.Rank, 1, api.MaxRank) || !within(x.Layer, 0, api.MaxLayers) {
		return api.ErrArg
	}
	return ops.check(x.If)
}

// testsOf returns, for each of valid rules, whether it applies at a fact.
func testsOf(list []api.Rule) []test {
	ops := allOperators()
	var tests []test
	for _, x := range list {
		holds := ops.test(x.If)
		tests = append(tests, func(f api.Fact) bool { return (x.Layer == 0 || x.Layer == f.Layer) && holds(f) })
	}
	return tests
}

// deciding returns, where it is known which rules apply, the least index of a deciding rule, and that of one that contradicts it; -1 for one that there is not.
func deciding(list []api.Rule, applies []bool) (rule, rival int) {
	rule, rival = -1, -1
	for i, x := range list {
		switch {
		case !applies[i]:
		case rule < 0 || x.Rank > list[rule].Rank:
			rule, rival = i, -1
		case x.Rank == list[rule].Rank && x.Open != list[rule].Open && rival < 0:
			rival = i
		}
	}
	return rule, rival
}

// opensBy reports whether a layer may be opened where this rule is the first of the deciding ones; -1 stands for none.
func opensBy(list []api.Rule, rule int) bool { return rule >= 0 && list[rule].Open }

// Decide returns the decision of rules at a fact.
func Decide(r api.Rules, f api.Fact) (bool, int, api.Errno) {
	if e := CheckRules(r); e != api.OK {
		return false, 0, e
	}
	if !validFact(f) {
		return false, 0, api.ErrArg
	}
	var applies []bool
	for _, holds := range testsOf(r.List) {
		applies = append(applies, holds(f))
	}
	rule, rival := deciding(r.List, applies)
	if rival >= 0 {
		return false, 0, api.ErrClash
	}
	return opensBy(r.List, rule), rule, api.OK
}

// Compile returns the policy of rules, or their first clash.
func Compile(r api.Rules) (api.Policy, api.Clash, api.Errno) {
	if e := CheckRules(r); e != api.OK {
		return api.Policy{}, api.Clash{}, e
	}
	spansAt := spanMaker(r.List)
	p := api.Policy{Weights: r.Weights}
	for i := range rowCount {
		f := factOfRow(i)
		spans, clash, found := spansAt(f)
		if found {
			return api.Policy{}, clash, api.ErrClash
		}
		p.Rows = append(p.Rows, api.Row{Room: f.Room, Layer: f.Layer, To: f.To, From: f.From, Claim: f.Claim, Spans: spans})
	}
	return p, api.Clash{}, api.OK
}

// spanMaker returns what makes the spans of the row of a fact, or finds the first clash there.
func spanMaker(list []api.Rule) func(f api.Fact) ([]api.Span, api.Clash, bool) {
	tests, turning := testsOf(list), turnsOf(list)
	days := slices.Sorted(maps.Keys(turning))
	return func(f api.Fact) ([]api.Span, api.Clash, bool) {
		applies := make([]bool, len(list))
		var spans []api.Span
		for _, day := range days {
			f.Days = day
			for _, i := range turning[day] {
				applies[i] = tests[i](f)
			}
			rule, rival := deciding(list, applies)
			if rival >= 0 {
				return nil, api.Clash{A: rule, B: rival, At: f}, true
			}
			// A rule decides the same on all days, so that another decision is one of another rule.
			if n := len(spans); n == 0 || spans[n-1].Rule != rule {
				spans = append(spans, api.Span{From: day, Open: opensBy(list, rule), Rule: rule})
			}
		}
		return spans, api.Clash{}, false
	}
}

// turnsOf returns, for each day on which rules may begin to apply or cease to, their indices; on the day 0 all may begin.
func turnsOf(list []api.Rule) map[int][]int {
	turning := map[int][]int{0: nil}
	for i, x := range list {
		turning[0] = append(turning[0], i)
		for _, day := range daysIn(x.If) {
			turning[day] = append(turning[day], i)
		}
	}
	return turning
}
