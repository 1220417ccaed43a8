package court_test

import (
	"fmt"
	"math"
	"math/rand"
	"slices"
	"testing"

	"restante/api"
	"restante/court"
)

// plainParty follows H13.
func plainParty(j [][]api.Record, person, thing int) bool {
	return slices.ContainsFunc(slices.Concat(j...), func(r api.Record) bool {
		handed := r.Kind == api.RecDeliver || r.Kind == api.RecReturn
		judged := r.Kind == api.RecVerdict && (r.Verdict == api.VerDeliver || r.Verdict == api.VerReturn)
		return r.Thing == thing && r.Person == person && (handed || judged)
	})
}

func isMade(j [][]api.Record, c api.Claim) bool {
	return slices.ContainsFunc(slices.Concat(j...), func(r api.Record) bool {
		return r.Kind == api.RecClaim && r.Day == c.Day && r.Thing == c.Thing && r.Person == c.Person && r.N == c.Id && r.Verdict == c.Ask
	})
}

// kindsFor returns the kinds of the records of which an answer has the reasons.
func kindsFor(ask uint8) []uint8 {
	return map[uint8][]uint8{api.AskOpened: {api.RecLook}, api.AskKept: {api.RecKeep}, api.AskSent: {api.RecDeliver, api.RecReturn}}[ask]
}

// plainAnswer follows H14, for a claim that is made.
func plainAnswer(j [][]api.Record, c api.Claim) api.Ruling {
	if !plainParty(j, c.Person, c.Thing) {
		return api.Ruling{Answer: api.AnswerNothing}
	}
	all := plainAudit(j, c.Thing)
	ruling := api.Ruling{Answer: all.Answer, Breach: all.Breach, What: all.What}
	for _, ref := range plainJoin(j) {
		for _, x := range all.Reasons {
			if x.Ref == ref && slices.Contains(kindsFor(c.Ask), get(j, ref).Kind) {
				ruling.Reasons = append(ruling.Reasons, x)
			}
		}
	}
	return ruling
}

// plainMay follows H15, for a claim that is made and a record that there is.
func plainMay(j [][]api.Record, c api.Claim, ref api.Ref) []int {
	all := []int{0, 1, 2, 3, 4, 5, 6, 7, 8, 9, 10, 11, 12, 13, 14}
	r := get(j, ref)
	switch {
	case r.Kind == api.RecRules || r.Kind == api.RecBook:
		return all
	case r.Thing != c.Thing:
		return nil
	case !plainParty(j, c.Person, c.Thing):
		return []int{0, 1, 2, 4, 5}
	case (r.Kind == api.RecClaim || r.Kind == api.RecAnswer) && r.N != c.Id:
		return []int{0, 1, 2, 4, 5, 8}
	}
	return all
}

// plainBundle follows H16, for a claim that is made.
func plainBundle(j [][]api.Record, c api.Claim) api.Bundle {
	b := api.Bundle{Claim: c, Ruling: plainAnswer(j, c)}
	digests := digestsOf(j)
	for q, l := range j {
		b.Roots = append(b.Roots, api.Root{Office: q, N: len(l), Hash: plainRoot(digests[q])})
	}
	for _, ref := range plainJoin(j) {
		if r := get(j, ref); r.Kind == api.RecRules || r.Thing == c.Thing {
			b.Items = append(b.Items, api.Item{Ref: ref, Record: plainRedact(r, plainMay(j, c, ref)), Path: plainPath(digests[ref.Journal], ref.Index)})
		}
	}
	return b
}

func digestsOf(j [][]api.Record) [][]api.Hash {
	var l [][]api.Hash
	for _, records := range j {
		var digests []api.Hash
		for _, r := range records {
			digests = append(digests, plainDigest(r))
		}
		l = append(l, digests)
	}
	return l
}

// claimsIn returns all claims that are made in journals.
func claimsIn(j [][]api.Record) []api.Claim {
	var l []api.Claim
	for _, r := range slices.Concat(j...) {
		if r.Kind == api.RecClaim {
			l = append(l, api.Claim{Id: r.N, Day: r.Day, Person: r.Person, Thing: r.Thing, Ask: r.Verdict})
		}
	}
	return l
}

// withClaims returns journals with claims about each thing, of a party to it if there is one, at the end of the first one; some things are kept there, wherever they are.
func withClaims(r *rand.Rand, j [][]api.Record) [][]api.Record {
	j = copied(j)
	day, number := 0, 100
	for _, x := range j[0] {
		day = max(day, x.Day)
	}
	for thing := 1; thing <= 4; thing++ {
		for person := 1; person <= 4; person++ {
			if plainParty(j, person, thing) || r.Intn(12) == 0 {
				j[0] = append(j[0], api.Record{Day: day, Kind: api.RecClaim, Thing: thing, Person: person, N: number, Verdict: uint8(1 + r.Intn(3))})
				number++
			}
		}
		if r.Intn(4) == 0 {
			j[0] = append(j[0], api.Record{Day: day, Kind: api.RecKeep, Room: 1, Thing: thing})
		}
	}
	return numbered(j)
}

// eachClaim calls a function with claims that are made in right and in spoilt worlds, and in journals of any records.
func eachClaim(seeds int64, f func(r *rand.Rand, j [][]api.Record, c api.Claim)) {
	for seed := range seeds {
		w := someWorld(seed, 50)
		r := rand.New(rand.NewSource(seed))
		for _, j := range [][][]api.Record{w.j, spoiltWorld(r, w.j), wildJournals(r, 1+r.Intn(3), r.Intn(16))} {
			j = withClaims(r, j)
			left := map[bool]int{false: 1, true: 3}
			for _, c := range claimsIn(j) {
				party := plainParty(j, c.Person, c.Thing)
				if left[party] > 0 {
					left[party]--
					f(r, j, c)
				}
			}
		}
	}
}

// H13: parties.
func TestParty(t *testing.T) {
	count := map[bool]int{}
	for seed := range int64(60) {
		r := rand.New(rand.NewSource(seed))
		for _, j := range [][][]api.Record{someWorld(seed, 40).j, wildJournals(r, 3, 30)} {
			for _, thing := range []int{0, 1, 2, 3, -1, math.MaxInt} {
				for _, person := range []int{0, 1, 2, 3, 4, 1000000, -1, math.MinInt} {
					got, e := court.Party(j, person, thing)
					same(t, "Party", e, api.OK)
					same(t, "Party", got, plainParty(j, person, thing))
					count[got]++
				}
			}
		}
	}
	if count[true] < 50 {
		t.Error("only", count[true], "parties")
	}
	for kind := uint8(1); kind <= 15; kind++ {
		for range 30 {
			x := randomRecord(rand.New(rand.NewSource(1)), kind)
			j := numbered([][]api.Record{nil, {x}})
			if errorOf(j) == api.OK {
				got, e := court.Party(j, x.Person, x.Thing)
				same(t, "Party", e, api.OK)
				same(t, fmt.Sprint("Party of ", x), got, plainParty(j, x.Person, x.Thing))
			}
		}
	}
}

// H14, H15, H16: what claims are answered with.
func TestClaims(t *testing.T) {
	t.Parallel()
	answers := map[uint8]int{}
	eachClaim(60, func(r *rand.Rand, j [][]api.Record, c api.Claim) {
		what := fmt.Sprintf("%+v", c)
		got, e := court.Answer(j, c)
		same(t, what, e, api.OK)
		equal(t, what+": Answer", got, plainAnswer(j, c))
		answers[got.Answer]++
		answers[10*got.Answer+c.Ask] += len(got.Reasons)
		for _, ref := range plainJoin(j) {
			fields, e := court.May(j, c, ref)
			same(t, what, e, api.OK)
			equal(t, what+": May", fields, plainMay(j, c, ref))
		}
		b, e := court.Bundle(j, c)
		same(t, what, e, api.OK)
		equal(t, what+": Bundle", b, plainBundle(j, c))
	})
	for _, x := range []uint8{1, 2, 3, 11, 12, 13, 21} {
		if answers[x] < 2 {
			t.Errorf("only %d of the sort %d", answers[x], x)
		}
	}
}

// H14, H15, H16: claims that are not made, and records that there are not.
func TestErrorsOfClaims(t *testing.T) {
	none := 0
	eachClaim(20, func(r *rand.Rand, j [][]api.Record, c api.Claim) {
		for _, ref := range []api.Ref{{Journal: -1}, {Journal: len(j)}, {Index: -1}, {Index: len(j[0])}, {Journal: math.MinInt}, {Journal: math.MaxInt}, {Index: math.MinInt}, {Index: math.MaxInt}} {
			fields, e := court.May(j, c, ref)
			fails(t, "May of no record", e, api.ErrArg, fields)
		}
		for range 12 {
			d := spoilt(r, c)
			if isMade(j, d) {
				continue
			}
			none++
			ruling, e := court.Answer(j, d)
			fails(t, "Answer", e, api.ErrNone, ruling)
			fields, e := court.May(j, d, pick(r, api.Ref{}, api.Ref{Journal: -1}))
			fails(t, "May", e, api.ErrNone, fields)
			b, e := court.Bundle(j, d)
			fails(t, "Bundle", e, api.ErrNone, b)
		}
	})
	if none < 500 {
		t.Error("only", none)
	}
	for _, j := range [][][]api.Record{nil, {nil}, make([][]api.Record, 8)} {
		for _, c := range []api.Claim{{}, {Id: 1, Person: 1, Thing: 1, Ask: 1}} {
			_, e := court.Answer(j, c)
			same(t, "Answer in no records", e, api.ErrNone)
			_, e = court.May(j, c, api.Ref{})
			same(t, "May in no records", e, api.ErrNone)
			_, e = court.Bundle(j, c)
			same(t, "Bundle in no records", e, api.ErrNone)
		}
	}
}

// H15: what may be known of a record of each kind, by a party and by others.
func TestMayOfKinds(t *testing.T) {
	r := rand.New(rand.NewSource(9))
	for kind := uint8(1); kind <= 15; kind++ {
		for range 40 {
			x := randomRecord(r, kind)
			x.Day = 0
			if x.Thing > 0 {
				x.Thing = 1 + r.Intn(2)
			}
			if kind == api.RecClaim || kind == api.RecAnswer {
				x.N = 1 + r.Intn(2)
			}
			j := numbered([][]api.Record{{
				{Kind: api.RecClaim, Thing: 1, Person: 5, N: 1, Verdict: 1}, {Kind: api.RecClaim, Thing: 1, Person: 6, N: 2, Verdict: 1},
				{Kind: api.RecReturn, Room: 1, Thing: 1, Person: 5, Place: 1}, x}})
			if errorOf(j) != api.OK {
				continue
			}
			for _, c := range claimsIn(j)[:2] {
				for i := range j[0] {
					fields, e := court.May(j, c, api.Ref{Index: i})
					same(t, "May", e, api.OK)
					equal(t, fmt.Sprint("May for ", c, " of ", j[0][i]), fields, plainMay(j, c, api.Ref{Index: i}))
				}
			}
		}
	}
}
