package court

import (
	"slices"

	"restante/api"
)

// Bundle returns the bundle of a claim.
func Bundle(journals [][]api.Record, c api.Claim) (api.Bundle, api.Errno) {
	ruling, e := Answer(journals, c)
	if e != api.OK {
		return api.Bundle{}, e
	}
	b := api.Bundle{Claim: c, Ruling: ruling}
	var trees []tree
	for q, l := range journals {
		t := treeOf(digestsOf(l))
		trees = append(trees, t)
		b.Roots = append(b.Roots, api.Root{Office: q, N: len(l), Hash: t.root()})
	}
	party := isParty(journals, c.Person, c.Thing)
	for _, ref := range join(journals) {
		r := at(journals, ref)
		if r.Kind != api.RecRules && r.Thing != c.Thing {
			continue
		}
		x, _ := Redact(r, mayKnow(c, party, r))
		b.Items = append(b.Items, api.Item{Ref: ref, Record: x, Path: trees[ref.Journal].path(ref.Index)})
	}
	return b, api.OK
}

func digestsOf(l []api.Record) []api.Hash {
	var list []api.Hash
	for _, r := range l {
		list = append(list, Digest(r))
	}
	return list
}

// Told returns what a bundle shows.
func Told(b api.Bundle) []api.Field {
	var list []api.Field
	for _, item := range b.Items {
		for _, f := range item.Record.Fields {
			if f.Shown {
				list = append(list, api.Field{Shown: true, Bytes: slices.Clone(f.Bytes)})
			}
		}
	}
	return list
}
