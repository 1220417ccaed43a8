package seals_test

import (
	"fmt"
	"testing"

	"restante/api"
	"restante/seals"
)

// source is that of the chapter's examples.
const source = "weights 0 20 60\nrule cover rank 1: open 1 if always\nrule early rank 5: leave 3 if days < 14 and not claim\nrule second rank 2: open any if room 3 and (addressees none or addressees many)\n"

// TestExamples has the table of the chapter, row by row.
func TestExamples(t *testing.T) {
	r := parsed(t, source)
	f := api.Fact{Room: 3, Layer: 3, Days: 13, To: api.LeftMany}
	decide := func(f api.Fact) string { return fmt.Sprint(seals.Decide(r, f)) }
	same(t, "13 days", decide(f), "false 1 0")
	f.Claim = true
	same(t, "with a claim", decide(f), "true 2 0")
	f.Claim, f.Days = false, 14
	same(t, "14 days", decide(f), "true 2 0")
	same(t, "room 2", decide(api.Fact{Room: 2, Layer: 2, Days: 50, To: api.LeftMany}), "false -1 0")
	p := compiled(t, source)
	for _, row := range p.Rows {
		if row.Room == 3 && row.Layer == 3 && row.To == api.LeftMany && row.From == api.LeftNone && !row.Claim {
			same(t, "the row", fmt.Sprint(row.Spans), "[{0 false 1} {14 true 2}]")
		}
	}
	q, clash, e := seals.Compile(parsed(t, source+"rule late rank 2: leave 2 if days >= 90"))
	same(t, "the clash", fmt.Sprint(clash, e, len(q.Rows)), "{2 3 {3 2 90 0 0 false}} 40 0")
	f.Days = 3
	same(t, "Since", fmt.Sprint(seals.Since(p, f)), "14 true")
	for src, want := range map[string]api.Fault{
		"weights 0 20": {Err: api.ErrForm, Line: 1, At: 12},
		"weights 0 20 60\nrule a rank 0: open 4 if always": {Err: api.ErrForm, Line: 2, At: 20},
		"weights 0 20 60\nrule a rank 0: open 3 if room 9": {Err: api.ErrArg, Line: 2, At: 12},
	} {
		_, fault := seals.Parse(src)
		same(t, src, fault, want)
	}
	same(t, "Intrusion", fmt.Sprint(seals.Intrusion([3]int{0, 20, 60}, 1, []api.Look{{Layer: 2}, {Layer: 3, Piece: 1}})), "82 0")
	x := api.Thing{Id: 1, Layers: []api.Layer{{Pieces: []api.Piece{{Kind: 1}}}, {Pieces: []api.Piece{{Kind: 2}}}}}
	f = api.Fact{Room: 3, Days: 20, To: api.LeftMany}
	s, e := seals.Begin(x)
	same(t, "Begin", e, api.OK)
	same(t, "Allowed", fmt.Sprint(seals.Allowed(x, s, p, f)), "[{1 0} {2 0}] 0")
	s, _, e = seals.Take(x, s, p, f, api.Look{Layer: 2})
	same(t, "Take", fmt.Sprint(s.Opened, e, seals.Depth(s, 3), seals.Depth(s, 4)), "2 0 2 0")
}
