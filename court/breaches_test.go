package court_test

import (
	"fmt"
	"slices"
	"testing"

	"restante/api"
	"restante/court"
	"restante/judge"
	"restante/people"
	"restante/places"
)

// delivery is the journals of two offices: a thing arrives at the office 0, is looked at there, handed over and shipped, and is looked at again and delivered at the office 1.
func delivery() [][]api.Record {
	var books []api.Record
	for _, line := range []string{"place 0 found 1 0 north", "place 0 found 2 1 ayton", "place 0 found 3 1 ayford", "people 0 name 1 0 0 ann lee", "people 0 live 1 2 0 0", "people 0 name 2 0 0 ann lee", "people 0 live 2 3 0 0"} {
		books = append(books, api.Record{Kind: api.RecBook, Text: line})
	}
	rules := api.Record{Kind: api.RecRules, Text: "weights 1 20 60\nrule all rank 1: open any if always\n"}
	many := api.Fact{Room: 1, Layer: 1, Days: 2, To: api.LeftMany, From: api.LeftMany}
	in := func(room, layer int) api.Fact {
		f := many
		f.Room, f.Layer = room, layer
		return f
	}
	town := api.Piece{Kind: api.PieceToPlace, Cells: cellsOf("ayton")}
	one := in(4, 1)
	one.To = api.LeftOne
	j := [][]api.Record{append(slices.Clone(books), rules,
		api.Record{Day: 5, Kind: api.RecArrive, Room: 1, Thing: 1, N: 3, Text: "1/2/2/"},
		api.Record{Day: 5, Kind: api.RecVerdict, Room: 1, Thing: 1, Fact: in(1, 1), Verdict: api.VerLook, Look: api.Look{Layer: 2}, N: 22},
		api.Record{Day: 5, Kind: api.RecLook, Room: 1, Thing: 1, Fact: in(1, 2), Look: api.Look{Layer: 2}, Piece: town},
		api.Record{Day: 5, Kind: api.RecMoney, Room: 1, Thing: 1, Verdict: api.WhyDeposit, N: 1},
		api.Record{Day: 5, Kind: api.RecMoney, Room: 1, Thing: 1, Verdict: api.WhyDeposit, N: 2},
		api.Record{Day: 5, Kind: api.RecHand, Room: 3, Thing: 1, Fact: in(3, 1), N: 1},
		api.Record{Day: 5, Kind: api.RecShip, Room: 3, Thing: 1, Place: 1, N: 9}),
		append(slices.Clone(books), rules,
			api.Record{Day: 5, Kind: api.RecReceive, Room: 4, Thing: 1, Fact: in(4, 1), Place: 0, N: 9, Person: 3},
			api.Record{Day: 5, Kind: api.RecVerdict, Room: 4, Thing: 1, Fact: one, Verdict: api.VerDeliver, Person: 1, Place: 2},
			api.Record{Day: 5, Kind: api.RecDeliver, Room: 4, Thing: 1, Person: 1, Place: 2},
			api.Record{Day: 5, Kind: api.RecMoney, Room: 4, Thing: 1, Verdict: api.WhyPay, Person: 1})}
	return numbered(j)
}

// The indices of records of a delivery, in both journals.
const (
	arrived = 8 + iota
	judged
	looked
	firstPaid
	secondPaid
	handed
	shipped
	received = 8
	verdict  = 9
	handOut  = 10
	payment  = 11
)

// audited compares an audit with what the chapter says, and with the oracle.
func audited(t *testing.T, what string, j [][]api.Record, breach api.Ref, kind uint8) api.Ruling {
	t.Helper()
	ruling, e := court.Audit(numbered(j), 1)
	same(t, what, e, api.OK)
	equal(t, what, ruling, plainAudit(j, 1))
	answer := api.AnswerBreach
	if kind == 0 {
		answer = api.AnswerRight
	}
	equal(t, what, []any{ruling.Answer, ruling.Breach, ruling.What}, []any{answer, breach, kind})
	return ruling
}

// H12: a story without a breach, and its reasons.
func TestAuditOfADelivery(t *testing.T) {
	ruling := audited(t, "a delivery", delivery(), api.Ref{}, 0)
	equal(t, "the reasons", ruling.Reasons, []api.Reason{
		{Ref: api.Ref{Journal: 0, Index: looked}, Rule: 0, Cost: 22, Left: 22},
		{Ref: api.Ref{Journal: 1, Index: handOut}, Rule: -1, Left: 12},
	})
}

// fault is something wrong with a record of a delivery.
type fault struct {
	what   uint8
	change func(j [][]api.Record)
}

// H12: each breach at records of each kind, and the order in which breaches are looked for: of two faults of a record the first one is found.
func TestOrderOfBreaches(t *testing.T) {
	noBook := func(q int) fault {
		return fault{api.BreachBook, func(j [][]api.Record) { j[q][1].Text = "place 0 found 1 0 north" }}
	}
	noRules := func(q int) fault {
		return fault{api.BreachRules, func(j [][]api.Record) { j[q][7].Text = "weights" }}
	}
	shut := func(q int) fault {
		return fault{0, func(j [][]api.Record) { j[q][7].Text = "weights 1 20 60\n" }}
	}
	for _, x := range []struct {
		at     api.Ref
		faults []fault
	}{
		{api.Ref{Index: arrived}, []fault{{api.BreachTime, func(j [][]api.Record) { j[0][arrived].N = 6 }}}},
		{api.Ref{Index: judged}, []fault{
			{api.BreachCustody, func(j [][]api.Record) { j[0][judged].Room = 2 }}, noBook(0), noRules(0),
			{api.BreachFact, func(j [][]api.Record) { j[0][judged].Fact.Days = 1 }},
			{api.BreachVerdict, func(j [][]api.Record) { j[0][judged].Verdict = api.VerKeep; j[0][judged].Look = api.Look{} }},
		}},
		{api.Ref{Index: looked}, []fault{
			{api.BreachCustody, func(j [][]api.Record) { j[0][looked].Room = 2 }},
			{api.BreachFact, func(j [][]api.Record) { j[0][looked].Fact.Layer = 1 }},
			{api.BreachPiece, func(j [][]api.Record) { j[0][looked].Piece.Kind = api.PieceToName }},
			{api.BreachMoney, func(j [][]api.Record) { j[0][secondPaid].N = 1 }},
		}},
		{api.Ref{Index: looked}, []fault{
			{api.BreachFact, func(j [][]api.Record) { j[0][looked].Fact.Claim = true }},
			{api.BreachPiece, func(j [][]api.Record) { j[0][looked].Look.Piece = 1 }},
			{api.BreachMoney, func(j [][]api.Record) { j[0][firstPaid].N = 2 }},
		}},
		{api.Ref{Index: looked}, []fault{
			{api.BreachFact, func(j [][]api.Record) { j[0][looked].Fact.To = api.LeftOne }},
			{api.BreachNeed, func(j [][]api.Record) { j[0][looked].Look.Layer, j[0][looked].Fact.Layer = 3, 3 }},
			{api.BreachMoney, func(j [][]api.Record) {
				j[0][firstPaid].Kind = api.RecShip
				j[0][firstPaid].Verdict = 0
				j[0][firstPaid].Place = 1
			}},
		}},
		{api.Ref{Index: firstPaid}, []fault{{api.BreachCustody, func(j [][]api.Record) { j[0][firstPaid].Room = 2 }}}},
		{api.Ref{Index: handed}, []fault{
			{api.BreachCustody, func(j [][]api.Record) { j[0][handed].N = 2 }},
			{api.BreachFact, func(j [][]api.Record) { j[0][handed].Fact.Room = 1 }},
		}},
		{api.Ref{Index: handed}, []fault{
			{api.BreachCustody, func(j [][]api.Record) { j[0][handed].Room = 1 }},
			{api.BreachFact, func(j [][]api.Record) { j[0][handed].Fact.Layer = 2 }},
		}},
		{api.Ref{Index: shipped}, []fault{{api.BreachCustody, func(j [][]api.Record) { j[0][shipped].Room = 1 }}}},
		{api.Ref{Journal: 1, Index: received}, []fault{
			{api.BreachCustody, func(j [][]api.Record) { j[1][received].Person = 1 }},
			{api.BreachTime, func(j [][]api.Record) { j[1][received].Day = 4 }}, noBook(1), noRules(1),
			{api.BreachFact, func(j [][]api.Record) { j[1][received].Fact.To = api.LeftOne }},
		}},
		{api.Ref{Journal: 1, Index: verdict}, []fault{
			{api.BreachCustody, func(j [][]api.Record) { j[1][verdict].Room = 3 }},
			{api.BreachFact, func(j [][]api.Record) { j[1][verdict].Fact.To = api.LeftMany }},
			{api.BreachVerdict, func(j [][]api.Record) { j[1][verdict].Person = 2 }},
		}},
		{api.Ref{Journal: 1, Index: handOut}, []fault{
			{api.BreachCustody, func(j [][]api.Record) { j[1][handOut].Room = 3 }},
			{api.BreachVerdict, func(j [][]api.Record) { j[1][handOut].Kind = api.RecReturn }},
		}},
		{api.Ref{Journal: 1, Index: payment}, []fault{{api.BreachMoney, func(j [][]api.Record) { j[1][payment].Person = 2 }}}},
	} {
		for i, a := range x.faults {
			j := delivery()
			a.change(j)
			audited(t, fmt.Sprint("the fault ", a.what), j, x.at, a.what)
			for _, b := range x.faults[i+1:] {
				j := delivery()
				b.change(j)
				a.change(j)
				audited(t, fmt.Sprint("the faults ", a.what, " and ", b.what), j, x.at, a.what)
			}
		}
	}
	j := delivery()
	shut(0).change(j)
	j[0][judged] = api.Record{Day: 5, Kind: api.RecKeep, Room: 1, Thing: 1}
	audited(t, "rules that leave the layer closed", j, api.Ref{Index: looked}, api.BreachNeed)
}

// with returns journals with a record put in before another one.
func with(j [][]api.Record, q, i int, x api.Record) [][]api.Record {
	x.Day = j[q][max(0, i-1)].Day
	j[q] = slices.Insert(j[q], i, x)
	return numbered(j)
}

// without returns journals without some records.
func without(j [][]api.Record, q, from, to int) [][]api.Record {
	j[q] = slices.Delete(j[q], from, to)
	return numbered(j)
}

// H12: breaches of custody.
func TestBreachesOfCustody(t *testing.T) {
	arrive := api.Record{Kind: api.RecArrive, Room: 1, Thing: 1, Text: "/"}
	keep := func(room int) api.Record { return api.Record{Kind: api.RecKeep, Room: room, Thing: 1} }
	receive := api.Record{Kind: api.RecReceive, Room: 4, Thing: 1, Fact: api.Fact{Room: 4, Layer: 1}, Place: 0, N: 9, Person: 3}
	loss := api.Record{Kind: api.RecLoss, Room: 4, Thing: 1}
	audited(t, "another arrival in the story", with(delivery(), 0, judged, arrive), api.Ref{Index: judged}, api.BreachCustody)
	arrive.Day = 5
	audited(t, "another arrival elsewhere", append(delivery(), []api.Record{arrive}), api.Ref{Journal: 2}, api.BreachCustody)
	arrive.Day = 4
	audited(t, "an arrival before", append(delivery(), []api.Record{arrive}), api.Ref{Index: arrived}, api.BreachCustody)
	audited(t, "a record before the arrival", with(delivery(), 0, arrived, keep(1)), api.Ref{Index: arrived}, api.BreachCustody)
	audited(t, "a record behind the shipping", with(delivery(), 0, shipped+1, keep(3)), api.Ref{Index: shipped + 1}, api.BreachCustody)
	audited(t, "a record behind the delivery", with(delivery(), 1, handOut+1, keep(4)), api.Ref{Journal: 1, Index: handOut + 1}, api.BreachCustody)
	audited(t, "a loss behind the delivery", with(delivery(), 1, payment+1, loss), api.Ref{Journal: 1, Index: payment + 1}, api.BreachCustody)
	audited(t, "a delivery behind a loss", with(delivery(), 1, handOut, loss), api.Ref{Journal: 1, Index: handOut + 1}, api.BreachCustody)
	audited(t, "a second delivery", with(delivery(), 1, handOut, delivery()[1][handOut]), api.Ref{Journal: 1, Index: handOut + 1}, api.BreachCustody)
	audited(t, "a receipt that follows no shipping", with(delivery(), 1, received+1, receive), api.Ref{Journal: 1, Index: received + 1}, api.BreachCustody)
	audited(t, "a receipt without a shipping", without(delivery(), 0, shipped, shipped+1), api.Ref{Journal: 1, Index: received}, api.BreachCustody)
	audited(t, "a receipt of another bag", func() [][]api.Record { j := delivery(); j[0][shipped].N = 8; return j }(), api.Ref{Journal: 1, Index: received}, api.BreachCustody)
	audited(t, "a shipping that is not received", without(delivery(), 1, received, payment+1), api.Ref{}, 0)
	audited(t, "records without an arrival", without(delivery(), 0, arrived, shipped), api.Ref{Index: arrived}, api.BreachCustody)
	j := delivery()
	j[0] = j[0][:arrived]
	audited(t, "records of another office without an arrival", j, api.Ref{Journal: 1, Index: received}, api.BreachCustody)
}

// H12: breaches of the money of layers and of payments.
func TestBreachesOfMoney(t *testing.T) {
	deposit := api.Record{Kind: api.RecMoney, Room: 1, Thing: 1, Verdict: api.WhyDeposit, N: 3}
	pay := api.Record{Kind: api.RecMoney, Room: 4, Thing: 1, Verdict: api.WhyPay, Person: 1}
	audited(t, "a layer without money", without(delivery(), 0, firstPaid, firstPaid+1), api.Ref{Index: looked}, api.BreachMoney)
	audited(t, "the last layer without money", without(delivery(), 0, secondPaid, secondPaid+1), api.Ref{Index: looked}, api.BreachMoney)
	audited(t, "money of a layer that is closed", with(delivery(), 0, secondPaid+1, deposit), api.Ref{Index: secondPaid + 1}, api.BreachMoney)
	audited(t, "money before the look", with(delivery(), 0, looked, deposit), api.Ref{Index: looked}, api.BreachMoney)
	j := delivery()
	j[0][firstPaid], j[0][secondPaid] = j[0][secondPaid], j[0][firstPaid]
	audited(t, "money in another order", j, api.Ref{Index: looked}, api.BreachMoney)
	for end := looked + 1; end <= shipped+1; end++ {
		j := delivery()
		j[0], j[1] = j[0][:end], nil
		audited(t, "a story that ends early", j, api.Ref{}, 0)
	}
	audited(t, "a payment before the delivery", with(delivery(), 1, handOut, pay), api.Ref{Journal: 1, Index: handOut}, api.BreachMoney)
	audited(t, "a payment in another office", with(delivery(), 0, shipped+1, pay), api.Ref{Index: shipped + 1}, api.BreachMoney)
	audited(t, "a second payment", with(delivery(), 1, payment+1, pay), api.Ref{}, 0)
	pay.Person = 2
	audited(t, "a second payment, to another person", with(delivery(), 1, payment+1, pay), api.Ref{Journal: 1, Index: payment + 1}, api.BreachMoney)
	pay.Verdict = api.WhyRefund
	audited(t, "a refund", with(delivery(), 1, payment+1, pay), api.Ref{}, 0)
	audited(t, "no payment", without(delivery(), 1, payment, payment+1), api.Ref{}, 0)
}

// H12: breaches of claims, which come last.
func TestBreachesOfClaims(t *testing.T) {
	claim := api.Record{Kind: api.RecClaim, Thing: 1, Person: 1, N: 1, Verdict: 1}
	answer := api.Record{Kind: api.RecAnswer, Thing: 1, N: 1, Verdict: 1}
	other := answer
	other.N = 2
	add := func(q int, l ...api.Record) [][]api.Record {
		j := delivery()
		for _, x := range l {
			x.Day = 5
			j[q] = append(j[q], x)
		}
		return numbered(j)
	}
	last := func(q, behind int) api.Ref { return api.Ref{Journal: q, Index: len(delivery()[q]) + behind} }
	audited(t, "a claim", add(1, claim), api.Ref{}, 0)
	audited(t, "an answer", add(1, claim, answer), api.Ref{}, 0)
	audited(t, "two claims", add(1, claim, answer, claim, answer), api.Ref{}, 0)
	audited(t, "one claim made twice", add(1, claim, claim, answer), api.Ref{}, 0)
	audited(t, "an answer without a claim", add(1, answer), last(1, 0), api.BreachClaim)
	audited(t, "an answer before the claim", add(1, answer, claim), last(1, 0), api.BreachClaim)
	audited(t, "a second answer", add(1, claim, answer, answer), last(1, 2), api.BreachClaim)
	audited(t, "the answer to another claim", add(1, claim, other), last(1, 1), api.BreachClaim)
	audited(t, "another answer between", add(1, claim, other, answer), last(1, 1), api.BreachClaim)
	j := add(1, answer)
	j[0] = append(j[0], claim)
	j[0][len(j[0])-1].Day = 5
	audited(t, "the claim of another office", j, last(1, 0), api.BreachClaim)
	ruling, e := court.Audit(numbered([][]api.Record{{claim, answer}}), 1)
	equal(t, "a claim that is the first record", []any{ruling, e}, []any{api.Ruling{Answer: api.AnswerRight}, api.OK})
	claim.Thing = 2
	audited(t, "the claim of another thing", add(1, claim, answer), last(1, 1), api.BreachClaim)
	j = add(1, answer)
	j[1][payment].Person = 2
	audited(t, "a payment is looked at before", j, api.Ref{Journal: 1, Index: payment}, api.BreachMoney)
	j[0] = append(j[0], api.Record{Day: 9, Kind: api.RecLoss, Room: 3, Thing: 1})
	audited(t, "custody is looked at before", j, api.Ref{Index: shipped + 1}, api.BreachCustody)
}

// H12: the greatest number of a thing.
func TestAuditOfTheLastThing(t *testing.T) {
	j := delivery()
	for q := range j {
		for i := range j[q] {
			if j[q][i].Thing == 1 {
				j[q][i].Thing = 1000000
			}
		}
	}
	ruling, e := court.Audit(j, 1000000)
	same(t, "Audit", e, api.OK)
	same(t, "the answer", ruling.Answer, api.AnswerRight)
}

// H12: things without records.
func TestAuditOfNothing(t *testing.T) {
	for _, thing := range append(extremes(), 2, 1000000) {
		ruling, e := court.Audit(delivery(), thing)
		same(t, "Audit", e, api.OK)
		if thing != 1 {
			equal(t, "Audit", ruling, api.Ruling{Answer: api.AnswerNothing})
		}
	}
	for _, j := range [][][]api.Record{nil, {}, {nil}, make([][]api.Record, 8)} {
		ruling, e := court.Audit(j, 1)
		equal(t, "Audit", []any{ruling, e}, []any{api.Ruling{Answer: api.AnswerNothing}, api.OK})
	}
	for _, x := range []api.Record{{Kind: api.RecClaim, Thing: 1, Person: 1, N: 1, Verdict: 1}, {Kind: api.RecMoney, Room: 1, Thing: 1, Verdict: api.WhyRefund, Person: 1}} {
		ruling, e := court.Audit([][]api.Record{{x}}, 1)
		equal(t, "Audit of a thing that did not arrive", []any{ruling, e}, []any{api.Ruling{Answer: api.AnswerRight}, api.OK})
	}
}

// H12: a piece has to be the same whenever a room looks at it. Here the second room gets nothing from the first one, and may look a day later.
func TestLooksOfTwoRooms(t *testing.T) {
	again := func(cells string) [][]api.Record {
		j := delivery()
		j[0], j[1] = j[0][:handed+1], nil
		j[0][7].Text = "weights 1 20 60\nrule all rank 1: open any if always\nrule shut rank 2: leave any if room 3 and days < 3\n"
		x := j[0][looked]
		x.Day, x.Room, x.Fact.Room, x.Fact.Days, x.Piece.Cells = 6, 3, 3, 3, cellsOf(cells)
		j[0] = append(j[0], x)
		return j
	}
	ruling := audited(t, "the same piece", again("ayton"), api.Ref{}, 0)
	equal(t, "the second look, with which no layer is opened", ruling.Reasons[1], api.Reason{Ref: api.Ref{Index: handed + 1}, Rule: 0, Cost: 22, Left: 22})
	audited(t, "another piece", again("ayford"), api.Ref{Index: handed + 1}, api.BreachPiece)
	j := delivery()
	j[0][looked].Piece.Cells = broad()
	audited(t, "a piece with too many readings", j, api.Ref{Index: looked}, api.BreachPiece)
	j = again("ayton")
	j[0][looked].Piece.Cells, j[0][handed+1].Piece.Cells = nil, nil
	audited(t, "a piece that says nothing", j, api.Ref{}, 0)
}

// broad is valid cells that have too many profiles.
func broad() []api.Cell {
	var cells []api.Cell
	for i := range 32 {
		cells = append(cells, api.Cell{Alts: []api.Alt{{Letters: "a", Cost: i}, {Letters: "aa", Cost: 3 * i % 7}, {Letters: "aba", Cost: i * i % 11}, {Letters: "b", Cost: 5 * i % 13}, {Letters: "", Cost: 7 * i % 29}}})
	}
	return cells
}

// P8.3: what a right answer says.
func TestRightAnswers(t *testing.T) {
	t.Parallel()
	looks, deliveries := 0, 0
	for seed := range int64(120) {
		w := someWorld(seed, 60)
		for _, x := range w.items {
			ruling, _ := court.Audit(w.j, x.thing.Id)
			same(t, "the answer", ruling.Answer, api.AnswerRight)
			s := trial{w.j, plainStory(w.j, x.thing.Id)}
			for k := range s.story {
				r := s.record(k)
				switch r.Kind {
				case api.RecLook:
					looks++
					fact, v := s.room(k)
					same(t, "the verdict", v.Kind, api.VerLook)
					same(t, "the look", v.Look, r.Look)
					s.checkPlan(t, k, fact, v)
				case api.RecDeliver:
					deliveries++
					s.checkDelivery(t, k)
				}
			}
		}
	}
	if looks < 50 || deliveries < 10 {
		t.Error("too few looks and deliveries:", looks, deliveries)
	}
}

// caseOf returns the case of the room of the record k.
func (t trial) caseOf(k int) api.Case {
	r, x := t.record(k), t.before(k)
	books, _ := t.books(k)
	c := api.Case{Books: books, Thing: x.thing, Day: r.Day, Weights: t.policy(k).Weights}
	for _, shown := range x.seal.Rooms {
		if shown.Room == r.Room {
			c.Made = shown.Looks
			c.Opened = shown.Looks[len(shown.Looks)-1].Layer
		}
	}
	return c
}

// checkPlan fails unless the plan of a verdict is one with the least intrusion, of looks that the rules allow.
func (t trial) checkPlan(test *testing.T, k int, fact api.Fact, v api.Verdict) {
	test.Helper()
	c := t.caseOf(k)
	for _, l := range judge.Looks(c.Thing) {
		fact.Layer = l.Layer
		if !slices.Contains(c.Made, l) && allowed(t.policy(k), fact, c.Opened, l) {
			c.May = append(c.May, l)
		}
	}
	to, e := judge.CheckPlan(c, api.RoleTo, v.Plan)
	same(test, "CheckPlan", e, api.OK)
	from, e := judge.CheckPlan(c, api.RoleFrom, v.Plan)
	same(test, "CheckPlan", e, api.OK)
	same(test, "the plan is a least one", to || from, true)
	same(test, "the look is allowed", slices.Contains(c.May, v.Look), true)
}

// allowed reports whether the rules open all layers that a look needs.
func allowed(p api.Policy, f api.Fact, depth int, l api.Look) bool {
	for layer := 1; layer <= l.Layer; layer++ {
		for _, row := range p.Rows {
			if row.Room != f.Room || row.Layer != layer || row.To != f.To || row.From != f.From || row.Claim != f.Claim || layer <= depth && layer != l.Layer {
				continue
			}
			open := false
			for _, span := range row.Spans {
				if span.From <= f.Days {
					open = span.Open
				}
			}
			if !open {
				return false
			}
		}
	}
	return true
}

// checkDelivery fails unless one person was left, from whom redirections lead to the person and the place of the record.
func (t trial) checkDelivery(test *testing.T, k int) {
	test.Helper()
	r, c := t.record(k), t.caseOf(k)
	left, e := judge.Left(c, api.RoleTo)
	same(test, "Left", e, api.OK)
	same(test, "the persons who are left", len(judge.Persons(left)), 1)
	senders, _ := judge.Left(c, api.RoleFrom)
	sender := 0
	if l := judge.Persons(senders); len(l) == 1 {
		sender = l[0]
	}
	known := judge.Known(c.Books, c.Day)
	route, e := people.Follow(known.People, left[0], sender, c.Day)
	same(test, "Follow", e, api.OK)
	g, _, _ := places.Open(known.Places)
	equal(test, "where the redirections lead", api.Candidate{Person: route.End.Person, Place: g.GoesOn(route.End.Place, c.Day)}, api.Candidate{Person: r.Person, Place: r.Place})
}

// P8.8: records that come in later leave stories and breaches as they are.
func TestGrowingJournals(t *testing.T) {
	t.Parallel()
	breaches := 0
	for seed := range int64(100) {
		w := someWorld(seed, 60)
		for _, j := range [][][]api.Record{w.j, spoiltWorld(w.r, w.j), spoiltWorld(w.r, w.j)} {
			day := w.r.Intn(w.day + 1)
			early := make([][]api.Record, len(j))
			for q, l := range j {
				for _, x := range l {
					if x.Day <= day {
						early[q] = append(early[q], x)
					}
				}
			}
			for thing := range len(w.items) + 1 {
				was, _ := court.Story(early, thing)
				is, _ := court.Story(j, thing)
				equal(t, "the beginning of the story", is[:min(len(was), len(is))], was)
				old, _ := court.Audit(early, thing)
				if old.Answer != api.AnswerBreach || !slices.Contains(was, old.Breach) || get(j, old.Breach).Kind == api.RecMoney {
					continue
				}
				breaches++
				now, _ := court.Audit(j, thing)
				equal(t, "the breach", now, old)
			}
		}
	}
	if breaches < 30 {
		t.Error("only", breaches, "breaches")
	}
}
