package court

import (
	"slices"

	"restante/api"
	"restante/seals"
)

// CheckBundle checks a bundle, and returns the ruling that it shows by itself.
func CheckBundle(b api.Bundle, roots []api.Root) (api.Ruling, api.Errno) {
	if !isClaim(b.Claim) {
		return api.Ruling{}, api.ErrArg
	}
	if !slices.Equal(b.Roots, roots) {
		return api.Ruling{}, api.ErrProof
	}
	for q, x := range roots {
		if x.Office != q {
			return api.Ruling{}, api.ErrProof
		}
	}
	var shown []exhibit
	for _, item := range b.Items {
		x, e := exhibitOf(item, roots)
		if e != api.OK {
			return api.Ruling{}, e
		}
		if e := x.check(b.Claim, shown); e != api.OK {
			return api.Ruling{}, e
		}
		shown = append(shown, x)
	}
	ruling := rulingOf(b.Claim, shown)
	if b.Ruling.Answer != api.AnswerBreach && !agree(b.Ruling, ruling, b.Claim.Ask) {
		return api.Ruling{}, api.ErrBreach
	}
	return ruling, api.OK
}

func isClaim(c api.Claim) bool {
	return within(c.Id, 1, mostNumber) && within(c.Person, 1, api.MaxId) && within(c.Thing, 1, api.MaxId) &&
		within(c.Day, 0, api.MaxDay) && within(int(c.Ask), int(api.AskOpened), int(api.AskSent))
}

// exhibit is what an item of a bundle shows: a record, of which only the base fields are known unless it is whole.
type exhibit struct {
	ref    api.Ref
	record api.Record
	whole  bool
}

// exhibitOf returns what an item shows if its proof leads to one of the roots.
func exhibitOf(item api.Item, roots []api.Root) (exhibit, api.Errno) {
	digest, e := DigestOf(item.Record)
	if e != api.OK {
		return exhibit{}, e
	}
	if !within(item.Ref.Journal, 0, len(roots)-1) {
		return exhibit{}, api.ErrProof
	}
	root := roots[item.Ref.Journal]
	if !CheckProof(digest, item.Ref.Index, root.N, item.Path, root.Hash) {
		return exhibit{}, api.ErrProof
	}
	base, e := readBase(item.Record.Fields)
	if e != api.OK || slices.ContainsFunc(item.Record.Fields, func(f api.Field) bool { return !f.Shown }) {
		return exhibit{item.Ref, base, false}, e
	}
	var bytes [][]byte
	for _, f := range item.Record.Fields {
		bytes = append(bytes, f.Bytes)
	}
	whole, e := Read(bytes)
	return exhibit{item.Ref, whole, true}, e
}

// readBase returns a record with the base fields of a redacted one.
func readBase(fields []api.Field) (api.Record, api.Errno) {
	for i, f := range fields {
		if isBase(i) && !f.Shown {
			return api.Record{}, api.ErrHidden
		}
	}
	var n [fieldCount]int
	for i, f := range fields {
		if !isBase(i) {
			continue
		}
		x, ok := decimal(string(f.Bytes))
		if !ok || !rangeOf(i).has(x) {
			return api.Record{}, api.ErrForm
		}
		n[i] = x
	}
	return api.Record{Seq: n[seqField], Day: n[dayField], Office: n[officeField], Kind: uint8(n[kindField]), Thing: n[thingField]}, api.OK
}

// rangeOf returns the numbers that a base field of a well-formed record may be.
func rangeOf(field int) span {
	switch field {
	case seqField:
		return span{0, api.MaxSeq}
	case dayField:
		return span{0, api.MaxDay}
	case officeField:
		return span{0, api.MaxOffices - 1}
	case kindField:
		return span{int(api.RecArrive), int(api.RecReceive)}
	}
	return span{0, api.MaxId}
}

// check returns ErrArg unless an item is what a bundle may have behind others.
func (x exhibit) check(c api.Claim, before []exhibit) api.Errno {
	r := x.record
	if r.Office != x.ref.Journal || r.Seq != x.ref.Index {
		return api.ErrArg
	}
	if n := len(before); n > 0 && compareRefs(before[n-1].record.Day, r.Day, before[n-1].ref, x.ref) >= 0 {
		return api.ErrArg
	}
	if r.Thing != c.Thing && (r.Kind != api.RecRules || !x.whole) {
		return api.ErrArg
	}
	return api.OK
}

// rulingOf returns what the items of a bundle show by themselves.
func rulingOf(c api.Claim, items []exhibit) api.Ruling {
	if !showsAll(c, items) {
		return api.Ruling{Answer: api.AnswerNothing}
	}
	ruling, known := api.Ruling{Answer: api.AnswerRight}, policies{}
	for _, x := range items {
		reason := api.Reason{Ref: x.ref, Rule: -1}
		if x.record.Kind == api.RecLook {
			open, rule := seals.Apply(policyFor(x.ref, items, known), x.record.Fact)
			if !open {
				ruling.Answer, ruling.Breach, ruling.What = api.AnswerBreach, x.ref, api.BreachSealed
				return ruling
			}
			reason.Rule, reason.Left = rule, leftOf(x.record.Fact)
		}
		if isAsked(c.Ask, x.record.Kind) {
			ruling.Reasons = append(ruling.Reasons, reason)
		}
	}
	return ruling
}

// showsAll reports whether there are items of the thing besides claims and answers, and they hide nothing.
func showsAll(c api.Claim, items []exhibit) bool {
	some := false
	for _, x := range items {
		if x.record.Thing != c.Thing || x.record.Kind == api.RecClaim || x.record.Kind == api.RecAnswer {
			continue
		}
		if !x.whole {
			return false
		}
		some = true
	}
	return some
}

// policyFor returns the policy of the last item with rules in the journal before a record; none decides as a zero policy does.
func policyFor(ref api.Ref, items []exhibit, known policies) api.Policy {
	last := -1
	for i := range items {
		if x := &items[i]; x.record.Kind == api.RecRules && x.ref.Journal == ref.Journal && x.ref.Index < ref.Index {
			last = i
		}
	}
	if last < 0 {
		return api.Policy{}
	}
	policy, _ := known.of(last, items[last].record.Text)
	return policy
}

// agree reports whether two rulings on a question are equal, as far as a bundle shows it.
func agree(a, b api.Ruling, ask uint8) bool {
	return a.Answer == b.Answer && a.Breach == b.Breach && a.What == b.What && slices.EqualFunc(a.Reasons, b.Reasons, func(x, y api.Reason) bool {
		return x.Ref == y.Ref && x.Rule == y.Rule && (x.Left == y.Left || ask != api.AskOpened)
	})
}
