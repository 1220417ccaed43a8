package desk_test

import (
	"fmt"
	"testing"

	"restante/api"
	"restante/court"
	"restante/desk"
)

// records compares the last records of a journal; of those that are wanted, Seq, Office and Salt are filled in.
func records(t *testing.T, d *desk.Desk, office, salt int, want ...api.Record) {
	t.Helper()
	l := d.Journal(office)
	first := len(l) - len(want)
	for i := range want {
		want[i].Office, want[i].Seq, want[i].Salt = office, first+i, salt+8*(first+i)+office
	}
	equal(t, "the records", l[first:], want)
}

// A thing arrives, is looked at, handed over, sent to another office, and delivered there; each command writes its records.
func TestRecordsOfCommands(t *testing.T) {
	d := must(t, 2, api.MaxSectors, 1000)
	for q := range 2 {
		furnish(t, d, q, openRules)
	}
	ok := func(e api.Errno) {
		t.Helper()
		same(t, "the error", e, api.OK)
	}
	ok(d.Advance(3))
	ok(d.Rules(1, openRules+"\n"))
	records(t, d, 1, 1000, api.Record{Day: 3, Kind: api.RecRules, Text: openRules + "\n"})
	ok(d.Publish(1, "spell 2 y/i"))
	records(t, d, 1, 1000, api.Record{Day: 3, Kind: api.RecBook, Text: "spell 2 y/i"})
	x := letter(7, "ann lee", "aiton")
	x.Day = 1
	ok(d.Arrive(0, 2, x))
	records(t, d, 0, 1000, api.Record{Day: 3, Kind: api.RecArrive, Room: 2, Thing: 7, N: 1, Text: "1/2/"})
	v, e := d.Work(0, 7)
	ok(e)
	same(t, "the look", v.Look, api.Look{Layer: 1})
	fact := api.Fact{Room: 2, Layer: 1, Days: 2, To: api.LeftMany, From: api.LeftMany}
	records(t, d, 0, 1000,
		api.Record{Day: 3, Kind: api.RecVerdict, Room: 2, Thing: 7, Fact: fact, Verdict: api.VerLook, Look: v.Look, N: 22},
		api.Record{Day: 3, Kind: api.RecLook, Room: 2, Thing: 7, Fact: fact, Look: v.Look, Piece: x.Layers[0].Pieces[0]},
		api.Record{Day: 3, Kind: api.RecMoney, Room: 2, Thing: 7, Verdict: api.WhyDeposit, N: 1})
	n, e := d.Claim(0, 1, 7, api.AskKept)
	ok(e)
	same(t, "the claim", n, 1)
	records(t, d, 0, 1000, api.Record{Day: 3, Kind: api.RecClaim, Thing: 7, Person: 1, N: 1, Verdict: api.AskKept})
	fact.Claim = true
	v, e = d.Work(0, 7)
	ok(e)
	look := fact
	look.Layer = 2
	records(t, d, 0, 1000,
		api.Record{Day: 3, Kind: api.RecVerdict, Room: 2, Thing: 7, Fact: fact, Verdict: api.VerLook, Look: api.Look{Layer: 2}, N: 21},
		api.Record{Day: 3, Kind: api.RecLook, Room: 2, Thing: 7, Fact: look, Look: api.Look{Layer: 2}, Piece: x.Layers[1].Pieces[0]},
		api.Record{Day: 3, Kind: api.RecMoney, Room: 2, Thing: 7, Verdict: api.WhyDeposit, N: 2, Goods: x.Layers[1].Goods})
	// In the books of this office, nobody lives in aiton.
	ok(d.Advance(4))
	v, e = d.Work(0, 7)
	ok(e)
	same(t, "nobody", v.Kind, api.VerKeep)
	fact.Days, fact.To = 3, api.LeftNone
	records(t, d, 0, 1000,
		api.Record{Day: 4, Kind: api.RecVerdict, Room: 2, Thing: 7, Fact: fact, Verdict: api.VerKeep},
		api.Record{Day: 4, Kind: api.RecKeep, Room: 2, Thing: 7})
	ok(d.Hand(0, 7, 8))
	fact.Room, fact.To = 8, api.LeftMany // the room 8 was shown nothing before
	records(t, d, 0, 1000, api.Record{Day: 4, Kind: api.RecHand, Room: 8, Thing: 7, Fact: fact, N: 2})
	b, e := d.Answer(0, 1)
	ok(e)
	same(t, "the person 1 is no party yet", b.Ruling.Answer, api.AnswerNothing)
	records(t, d, 0, 1000, api.Record{Day: 4, Kind: api.RecAnswer, Thing: 7, N: 1, Verdict: api.AnswerNothing})
	ok(d.Ship(0, 7, 1))
	records(t, d, 0, 1000, api.Record{Day: 4, Kind: api.RecShip, Room: 8, Thing: 7, Place: 1, N: 1})
	ok(d.Offer(0))
	ok(d.Carry(0, 1, 0))
	ok(d.Carry(1, 0, 0))
	ok(d.Unpack(1, 7, 5))
	fact = api.Fact{Room: 5, Layer: 1, Days: 3, To: api.LeftMany, From: api.LeftMany}
	records(t, d, 1, 1000, api.Record{Day: 4, Kind: api.RecReceive, Room: 5, Thing: 7, Fact: fact, Place: 0, N: 1, Person: 8})
	n, e = d.Claim(1, 1, 7, api.AskSent)
	ok(e)
	same(t, "the claim", n, 1)
	fact.Claim, fact.To = true, api.LeftOne
	v, e = d.Work(1, 7)
	ok(e)
	same(t, "delivered", v.Kind, api.VerDeliver)
	records(t, d, 1, 1000,
		api.Record{Day: 4, Kind: api.RecVerdict, Room: 5, Thing: 7, Fact: fact, Verdict: api.VerDeliver, Person: 1, Place: 2},
		api.Record{Day: 4, Kind: api.RecDeliver, Room: 5, Thing: 7, Person: 1, Place: 2},
		api.Record{Day: 4, Kind: api.RecMoney, Room: 5, Thing: 7, Person: 1, Verdict: api.WhyPay, Goods: x.Layers[1].Goods})
	roots := d.Roots()
	b, e = d.Answer(1, 1)
	ok(e)
	same(t, "the person 1 is a party", b.Ruling.Answer, api.AnswerRight)
	ruling, e := court.CheckBundle(b, roots)
	ok(e)
	same(t, "the bundle", ruling.Answer, api.AnswerRight)
	records(t, d, 1, 1000, api.Record{Day: 4, Kind: api.RecAnswer, Thing: 7, N: 1, Verdict: api.AnswerRight})
	equal(t, "Where", d.Where(7), api.Site{Kind: api.SiteDelivered, Office: 1})
	ok(d.Arrive(1, 6, api.Thing{Id: 8, Layers: make([]api.Layer, 2)}))
	ok(d.Burn(1, 8))
	records(t, d, 1, 1000, api.Record{Day: 4, Kind: api.RecLoss, Room: 6, Thing: 8})
	equal(t, "Where", d.Where(8), api.Site{Kind: api.SiteLost, Office: 1})
}

// What was found is forfeited, and refunded to a party for 1095 days, less a fee.
func TestRefund(t *testing.T) {
	for _, day := range []int{31, 30 + 1095, 30 + 1096} {
		d := furnished(t, 1, openRules)
		x := letter(7, "ann lee", "ayton")
		x.Layers[1].Goods[0].N = 41
		same(t, "Arrive", d.Arrive(0, 1, x), api.OK)
		for range 2 {
			_, e := d.Work(0, 7)
			same(t, "Work", e, api.OK)
		}
		same(t, "Advance", d.Advance(day), api.OK)
		sums, e := d.Refund(0, 7, 1)
		fails(t, "no party", e, api.ErrState, sums)
		line := api.TrialLine{Account: api.Account{Kind: api.AcThing, Id: 7}, Unit: "crown", N: 41}
		equal(t, "the ledger was not advanced", d.Trial(0)[2], line)
		v, e := d.Work(0, 7)
		same(t, "Work", e, api.OK)
		same(t, "Work", v.Kind, api.VerDeliver)
		l := d.Journal(0)
		equal(t, "the ring alone is paid", l[len(l)-1].Goods, []api.Amount{{Unit: "ring", N: 1}})
		before := questions(d, 1, 7)
		sums, e = d.Refund(0, 7, 1)
		if day > 30+1095 {
			fails(t, "too late", e, api.ErrLate, sums)
			same(t, "too late", questions(d, 1, 7), before)
			continue
		}
		same(t, "Refund", e, api.OK)
		equal(t, "less 3", sums, []api.Amount{{Unit: "crown", N: 38}})
		records(t, d, 0, 0, api.Record{Day: day, Kind: api.RecMoney, Room: 1, Thing: 7, Person: 1, Verdict: api.WhyRefund, Goods: sums})
		sums, e = d.Refund(0, 7, 1)
		fails(t, "again", e, api.ErrNone, sums)
		for _, x := range [][2]int{{0, 1}, {7, 0}, {1000001, 1}, {7, 1000001}, {-1, -1}} {
			sums, e = d.Refund(0, x[0], x[1])
			fails(t, "Refund", e, api.ErrArg, sums)
		}
		same(t, "Audit", answerOf(t, d, 7), api.AnswerRight)
	}
}

func answerOf(t *testing.T, d *desk.Desk, thing int) uint8 {
	t.Helper()
	ruling, e := d.Audit(thing)
	same(t, "Audit", e, api.OK)
	return ruling.Answer
}

// What is too small for a fee is not paid at all.
func TestRefundOfNothing(t *testing.T) {
	d := furnished(t, 1, openRules)
	x := letter(7, "ann lee", "ayton")
	x.Layers[1].Goods = []api.Amount{{Unit: "crown", N: 1}}
	same(t, "Arrive", d.Arrive(0, 1, x), api.OK)
	for _, day := range []int{0, 0, 45} {
		same(t, "Advance", d.Advance(day), api.OK)
		_, e := d.Work(0, 7)
		same(t, "Work", e, api.OK)
	}
	sums, e := d.Refund(0, 7, 1)
	same(t, "Refund", e, api.OK)
	same(t, "Refund", len(sums), 0)
	records(t, d, 0, 0, api.Record{Day: 45, Kind: api.RecMoney, Room: 1, Thing: 7, Person: 1, Verdict: api.WhyRefund})
	d.Crash(0, nil)
	same(t, "after a crash", len(d.Trial(0)), 2)
}

// Bags are received in their order, once each; what is lost is offered again till it is acknowledged.
func TestOrderOfBags(t *testing.T) {
	d := furnished(t, 3, openRules)
	where := func(things ...int) string {
		text := ""
		for _, x := range things {
			site := d.Where(x)
			text += fmt.Sprintf("%d %d %d; ", site.Kind, site.Office, site.Room)
		}
		return text
	}
	ok := func(list ...api.Errno) {
		t.Helper()
		for _, e := range list {
			same(t, "the error", e, api.OK)
		}
	}
	for id := 1; id <= 4; id++ {
		ok(d.Arrive(0, id, letter(id, "cat", "south")))
	}
	ok(d.Ship(0, 2, 2), d.Ship(0, 1, 1), d.Ship(0, 3, 1), d.Ship(0, 4, 2))
	same(t, "in bags", where(1, 2, 3, 4), "2 1 0; 2 2 0; 2 1 0; 2 2 0; ")
	ok(d.Offer(0))
	ok(d.Carry(0, 1, 1)) // the bag with 3 comes too early
	same(t, "too early", where(1, 3), "2 1 0; 2 1 0; ")
	ok(d.Carry(0, 1, 0))
	same(t, "1 is there", where(1, 3), "1 1 0; 2 1 0; ")
	same(t, "no more", d.Carry(0, 1, 0), api.ErrNone)
	ok(d.Lose(1, 0, 0)) // the acknowledgement
	ok(d.Offer(0), d.Carry(0, 1, 0), d.Carry(0, 1, 0))
	same(t, "both are there", where(1, 3), "1 1 0; 1 1 0; ")
	equal(t, "Things", d.Things(1), []int{1, 3})
	equal(t, "nothing is in a room", fmt.Sprint(d.Show(1, 1)), "[] 0")
	ok(d.Unpack(1, 3, 7), d.Unpack(1, 1, 7))
	l := d.Journal(1)
	equal(t, "the numbers of the bags", []int{l[len(l)-2].N, l[len(l)-1].N}, []int{3, 2})
	equal(t, "the rooms", []int{l[len(l)-2].Person, l[len(l)-1].Person}, []int{3, 1})
	same(t, "again", d.Unpack(1, 1, 7), api.ErrNone)
	ok(d.Carry(1, 0, 0), d.Carry(1, 0, 0))
	ok(d.Offer(0))
	same(t, "all are acknowledged", d.Lose(0, 1, 0), api.ErrNone)
	ok(d.Repeat(0, 2, 0), d.Carry(0, 2, 0), d.Carry(0, 2, 1), d.Carry(0, 2, 0))
	same(t, "the others", where(2, 4), "1 2 0; 1 2 0; ")
	// A thing that goes back and forth is where it came last.
	ok(d.Ship(1, 1, 0), d.Offer(1), d.Carry(1, 0, 0), d.Unpack(0, 1, 2), d.Ship(0, 1, 1))
	same(t, "in the second bag", where(1), "2 1 0; ")
	ok(d.Carry(0, 2, 0))
	for id := 1; id <= 4; id++ {
		same(t, "Audit", answerOf(t, d, id), api.AnswerRight)
	}
}

// Questions show what an office had while it is down, but for Show.
func TestQuestionsWhileDown(t *testing.T) {
	d := furnished(t, 2, openRules)
	same(t, "Arrive", d.Arrive(0, 1, letter(7, "ann lee", "ayton")), api.OK)
	_, e := d.Work(0, 7)
	same(t, "Work", e, api.OK)
	asked := func() string {
		return fmt.Sprint(d.Things(0), d.Where(7), d.Journal(0), d.Trial(0), d.Roots(), answerOf(t, d, 7))
	}
	before := asked()
	same(t, "Stop", d.Stop(0, 0), api.OK)
	v, e := d.Work(0, 7)
	fails(t, "Work", e, api.ErrDown, v)
	same(t, "the questions", asked(), before)
	views, e := d.Show(0, 1)
	fails(t, "Show", e, api.ErrDown, views)
	views, e = d.Show(0, 9)
	fails(t, "Show", e, api.ErrDown, views)
	views, e = d.Show(1, 9)
	fails(t, "Show", e, api.ErrArg, views)
	same(t, "Stop", d.Stop(0, -1), api.ErrDown)
	same(t, "Stop", d.Stop(1, -1), api.ErrArg)
	same(t, "Stop", d.Stop(2, 1), api.ErrArg)
	same(t, "Crash", d.Crash(2, nil), api.ErrArg)
	same(t, "Crash", d.Crash(0, nil), api.OK)
	same(t, "the questions", asked(), before)
	_, e = d.Work(0, 7)
	same(t, "Work", e, api.OK)
}

// The forms of lines about money.
func TestMoneyLines(t *testing.T) {
	d := furnished(t, 1, openRules)
	for _, x := range []struct {
		line string
		want api.Errno
	}{
		{"unit gold coin 2", api.OK}, {"unit gold coin 2", api.ErrTwice}, {"unit a 1 2", api.OK}, {"unit a 1 2 3", api.OK}, {"unit  1", api.ErrForm}, {"unit 1", api.ErrForm}, {"unit", api.ErrForm}, {"unit x 0", api.ErrForm}, {"unit x 4", api.ErrForm}, {"unit x 01", api.ErrForm}, {"unit x 1 ", api.ErrForm}, {"unit X 1", api.ErrForm}, {" unit x 1", api.ErrForm}, {"Unit x 1", api.ErrForm},
		{"value gold coin 100000", api.OK}, {"value gold coin 100001", api.ErrArg}, {"value gold coin 9999999999", api.ErrArg}, {"value gold coin 10000000000", api.ErrForm}, {"value gold coin 01", api.ErrForm}, {"value gold coin -1", api.ErrForm}, {"value gold coin 0", api.ErrArg}, {"value ring 1", api.ErrUnit}, {"value gem 1", api.ErrUnit}, {"value  1", api.ErrUnit}, {"value 1", api.ErrForm}, {"value gold coin", api.ErrForm}, {"value gold coin 1\n", api.ErrForm},
		{"term gold coin 1 40000", api.OK}, {"term gold coin 1 40001", api.ErrArg}, {"term gold coin 0 1", api.ErrArg}, {"term gold coin 1000000001 1", api.ErrArg}, {"term gold coin 10000000000 1", api.ErrForm}, {"term gold coin 1 10000000000", api.ErrForm}, {"term gold coin 1", api.ErrForm}, {"term 1 1", api.ErrForm}, {"term  1 1", api.ErrUnit}, {"term ring 1 01", api.ErrForm}, {"term ring 01 1", api.ErrForm}, {"term ring 1  1", api.ErrForm}, {"term ring 2 3", api.OK},
		{"convert 1 gold coin 1", api.ErrNone}, {"convert 01 gold coin 1", api.ErrForm}, {"convert 9999999999 gold coin 9999999999", api.ErrNone}, {"convert 10000000000 gold coin 1", api.ErrForm}, {"convert 1 gold coin 10000000000", api.ErrForm}, {"convert 1 gold coin", api.ErrForm}, {"convert 1 1", api.ErrForm}, {"convert 1  1", api.ErrNone}, {"convert", api.ErrForm}, {"convert gold coin 1", api.ErrForm},
		{"", api.ErrForm}, {"coin x 1", api.ErrForm}, {"units x 1", api.ErrForm}, {"unit\x00x 1", api.ErrForm},
	} {
		same(t, fmt.Sprintf("%q", x.line), d.Money(0, x.line), x.want)
	}
	same(t, "no records", len(d.Journal(0)), 13)
	same(t, "no office", d.Money(1, ""), api.ErrArg)
}

// A thing is kept if the redirections lead to nobody, or to a place that there is not; otherwise it goes where they lead.
func TestRoutes(t *testing.T) {
	for _, x := range []struct {
		lines  []string
		person int // to whom it goes, if anybody
	}{
		{nil, 1},
		{[]string{"people 0 redirect 5 1 2 4 4 0 0"}, 4},
		{[]string{"people 0 live 4 9 0 0", "people 0 redirect 5 1 2 4 9 0 0"}, 0},
		{[]string{"people 0 live 4 9 0 0", "people 0 redirect 5 1 2 4 9 0 0", "place 0 found 9 1 bar"}, 4},
		{[]string{"people 0 death 1 1"}, 0},
		{[]string{"people 0 death 1 1", "people 0 heir 1 4 1 0"}, 4},
		{[]string{"people 0 redirect 5 1 2 4 4 0 0", "people 0 redirect 6 4 4 1 2 0 0"}, 0},
	} {
		for kind := range uint8(2) {
			d := furnished(t, 1, openRules)
			for _, line := range x.lines {
				same(t, line, d.Publish(0, line), api.OK)
			}
			same(t, "Advance", d.Advance(2), api.OK)
			thing := api.Thing{Id: 7, Layers: []api.Layer{{Pieces: []api.Piece{piece(1+3*kind, "ann lee"), piece(2+3*kind, "ayton")}, Goods: []api.Amount{{Unit: "ring", N: 1}}}}}
			same(t, "Arrive", d.Arrive(0, 1, thing), api.OK)
			var v api.Verdict
			for range 3 {
				var e api.Errno
				v, e = d.Work(0, 7)
				same(t, "Work", e, api.OK)
			}
			same(t, "the verdict", v.Kind, api.VerDeliver+kind)
			same(t, "the person", v.Who.Person, 1)
			l := d.Journal(0)
			if x.person == 0 {
				equal(t, "the thing is kept", l[len(l)-1], api.Record{Seq: len(l) - 1, Day: 2, Kind: api.RecKeep, Room: 1, Thing: 7, Salt: 8 * (len(l) - 1)})
				equal(t, "Where", d.Where(7), api.Site{Kind: api.SiteOffice, Room: 1})
				continue
			}
			records(t, d, 0, 0,
				api.Record{Day: 2, Kind: api.RecDeliver + kind, Room: 1, Thing: 7, Person: x.person, Place: v.Place},
				api.Record{Day: 2, Kind: api.RecMoney, Room: 1, Thing: 7, Person: x.person, Verdict: api.WhyPay, Goods: []api.Amount{{Unit: "ring", N: 1}}})
			equal(t, "Where", d.Where(7), api.Site{Kind: api.SiteDelivered + kind})
		}
	}
}

// A thing that comes back before its first bag was acknowledged is shipped with what it has then.
func TestSecondBags(t *testing.T) {
	d := furnished(t, 2, openRules)
	ok := func(list ...api.Errno) {
		t.Helper()
		for _, e := range list {
			same(t, "the error", e, api.OK)
		}
	}
	units := func(office int) string {
		text := ""
		for _, line := range d.Trial(office) {
			text += fmt.Sprintf("%d %d %d %s; ", line.Account.Kind, line.Account.Id, line.N, line.Unit)
		}
		return text
	}
	x := letter(7, "ann lee", "ayton")
	x.Layers[1].Goods = []api.Amount{{Unit: "crown", N: 5}}
	ok(d.Arrive(0, 1, x))
	for range 2 {
		_, e := d.Work(0, 7)
		ok(e)
	}
	ok(d.Ship(0, 7, 1), d.Offer(0), d.Carry(0, 1, 0), d.Lose(1, 0, 0), d.Unpack(1, 7, 2))
	same(t, "the first bag", units(0), "1 0 -5 crown; 7 1 5 crown; ")
	ok(d.Ship(1, 7, 0), d.Offer(1), d.Carry(1, 0, 0), d.Unpack(0, 7, 3), d.Money(0, "convert 2 mark 2"))
	same(t, "it is back", units(0), "1 0 -10 crown; 2 7 3 crown; 2 7 3 mark; 6 0 2 crown; 6 0 -3 mark; 7 1 5 crown; ")
	ok(d.Ship(0, 7, 1), d.Offer(0))
	same(t, "the second bag", units(0), "1 0 -10 crown; 6 0 2 crown; 6 0 -3 mark; 7 1 5 crown; 7 2 3 crown; 7 2 3 mark; ")
	ok(d.Carry(0, 1, 2)) // behind an acknowledgement and the first bag
	same(t, "the lots at the door", units(1), "1 0 -5 crown; 7 1 5 crown; ")
	ok(d.Unpack(1, 7, 4))
	same(t, "the lots that are received", units(1), "1 0 -8 crown; 1 0 -3 mark; 2 7 3 crown; 2 7 3 mark; 7 1 5 crown; ")
	ok(d.Carry(1, 0, 0))
	same(t, "the second bag is acknowledged", units(0), "1 0 -7 crown; 1 0 3 mark; 6 0 2 crown; 6 0 -3 mark; 7 1 5 crown; ")
	ok(d.Crash(0, nil), d.Carry(0, 1, 1), d.Carry(1, 0, 0))
	same(t, "the first bag is acknowledged", units(0), "1 0 -2 crown; 1 0 3 mark; 6 0 2 crown; 6 0 -3 mark; ")
	ok(d.Carry(0, 1, 0))
	same(t, "the bag of the office 1 is acknowledged", units(1), "1 0 -3 crown; 1 0 -3 mark; 2 7 3 crown; 2 7 3 mark; ")
	same(t, "no more", d.Carry(0, 1, 0), api.ErrNone)
	same(t, "Audit", answerOf(t, d, 7), api.AnswerRight)
}
