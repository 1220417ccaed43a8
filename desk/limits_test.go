package desk_test

import (
	"fmt"
	"math/rand"
	"strings"
	"testing"

	"restante/api"
	"restante/desk"
)

// claims makes claims until the journal of the office 0 has so many records.
func claims(t *testing.T, d *desk.Desk, records int) {
	t.Helper()
	for len(d.Journal(0)) < records {
		n := 1
		for n < records-len(d.Journal(0)) && n < 500 {
			n++
		}
		for range n {
			if _, e := d.Claim(0, 1, 99, 1); e != api.OK {
				t.Fatal("Claim", e)
			}
		}
	}
}

// A journal has at most 4000 records. ErrLimit comes behind the other errors of a command, and before those of its disk; what writes no records goes on.
func TestRecords(t *testing.T) {
	t.Parallel()
	d := furnished(t, 2, openRules)
	for id := 7; id <= 10; id++ {
		same(t, "Arrive", d.Arrive(id/10, 1, letter(id, "ann lee", "ayton")), api.OK)
	}
	same(t, "Ship", d.Ship(1, 10, 0), api.OK)
	same(t, "Offer", d.Offer(1), api.OK)
	_, e := d.Work(0, 8)
	same(t, "Work", e, api.OK)
	claims(t, d, 3998)
	before := questions(d, 2, 7, 8, 9, 10)
	v, e := d.Work(0, 7) // a verdict, a look and a deposit
	fails(t, "Work", e, api.ErrLimit, v)
	same(t, "Work", questions(d, 2, 7, 8, 9, 10), before)
	same(t, "day 40", d.Advance(40), api.OK)
	_, e = d.Work(0, 8)
	fails(t, "Work", e, api.ErrLimit)
	same(t, "Money", d.Money(0, "value crown 120"), api.OK)
	same(t, "Hand", d.Hand(0, 9, 2), api.OK)
	same(t, "3999", len(d.Journal(0)), 3999)
	same(t, "Burn", d.Burn(0, 9), api.OK)
	same(t, "4000", len(d.Journal(0)), 4000)
	same(t, "Stop", d.Stop(0, 0), api.OK)
	before = questions(d, 2, 7, 8, 9, 10)
	_, e = d.Claim(0, 1, 99, 1)
	same(t, "Claim", e, api.ErrLimit)
	for i, e := range []api.Errno{d.Rules(0, openRules), d.Publish(0, "people 0 death 1 5"), d.Arrive(0, 1, letter(11, "cat", "south")), d.Hand(0, 7, 2), d.Ship(0, 7, 1), d.Burn(0, 7)} {
		same(t, fmt.Sprint(i), e, api.ErrLimit)
	}
	_, e = d.Answer(0, 1)
	same(t, "Answer", e, api.ErrLimit)
	_, e = d.Claim(0, 1, 99, 4)
	same(t, "Claim", e, api.ErrArg)
	_, e = d.Answer(0, 4000)
	same(t, "Answer", e, api.ErrNone)
	for i, e := range []api.Errno{d.Rules(0, ""), d.Publish(0, "hello"), d.Arrive(0, 1, letter(7, "cat", "south")), d.Hand(0, 7, 9), d.Ship(0, 7, 2), d.Burn(0, 17)} {
		same(t, fmt.Sprint(i), e, []api.Errno{api.ErrForm, api.ErrForm, api.ErrTwice, api.ErrArg, api.ErrArg, api.ErrNone}[i])
	}
	same(t, "nothing", questions(d, 2, 7, 8, 9, 10), before)
	d.Crash(0, nil)
	same(t, "a crash", questions(d, 2, 7, 8, 9, 10), before)
	same(t, "Carry", d.Carry(1, 0, 0), api.OK)
	equal(t, "at the door", d.Where(10), api.Site{Kind: api.SiteOffice})
	same(t, "Unpack", d.Unpack(0, 10, 1), api.ErrLimit)
	same(t, "Money", d.Money(0, "unit gem 3"), api.OK)
	same(t, "Money", d.Money(0, "unit gem 3"), api.ErrTwice)
	same(t, "Roots", d.Roots()[0].N, 4000)
	ruling, e := d.Audit(9)
	same(t, "Audit", e, api.OK)
	same(t, "Audit", ruling.Answer, api.AnswerRight)
}

// A thing with more than 20 open lots is not shipped; the lots of one that is shipped come with it.
func TestCarriedLots(t *testing.T) {
	d := must(t, 2, api.MaxSectors, 0)
	for q := range 2 {
		same(t, "Rules", d.Rules(q, openRules), api.OK)
		for _, line := range firstLines() {
			same(t, line, d.Publish(q, line), api.OK)
		}
		for i := range 6 {
			same(t, "unit", d.Money(q, fmt.Sprintf("unit coin-%c 1", 'a'+i)), api.OK)
			same(t, "value", d.Money(q, fmt.Sprintf("value coin-%c 10", 'a'+i)), api.OK)
		}
		same(t, "term", d.Money(q, "term coin-f 100 50"), api.OK)
	}
	x := api.Thing{Id: 7, Layers: []api.Layer{{}, {}, {Pieces: []api.Piece{piece(1, "ann lee"), piece(2, "ayton")}}}}
	for i := range x.Layers {
		for j := range 6 {
			x.Layers[i].Goods = append(x.Layers[i].Goods, api.Amount{Unit: fmt.Sprintf("coin-%c", 'a'+j), N: 100})
		}
	}
	same(t, "Arrive", d.Arrive(0, 1, x), api.OK)
	_, e := d.Work(0, 7)
	same(t, "Work", e, api.OK)
	for i := range 3 {
		same(t, "convert", d.Money(0, "convert 1 coin-b 1"), api.OK)
		if i == 1 {
			same(t, "Arrive", d.Arrive(0, 1, api.Thing{Id: 8, Layers: make([]api.Layer, 1)}), api.OK)
		}
	}
	before := questions(d, 2, 7)
	same(t, "21 lots", d.Ship(0, 7, 1), api.ErrLimit)
	same(t, "21 lots", questions(d, 2, 7), before)
	same(t, "all of a lot", d.Money(0, "convert 19 coin-c 1"), api.OK)
	same(t, "21 lots", d.Ship(0, 7, 1), api.ErrLimit)
	same(t, "50 days later", d.Advance(50), api.OK)
	same(t, "18 lots", d.Ship(0, 7, 1), api.OK)
	for _, e := range []api.Errno{d.Offer(0), d.Carry(0, 1, 0), d.Unpack(1, 7, 4), d.Carry(1, 0, 0)} {
		same(t, "the bag", e, api.OK)
	}
	units := func(kind uint8, id int, list ...int) []api.TrialLine {
		var lines []api.TrialLine
		for i, n := range list {
			if n != 0 {
				lines = append(lines, api.TrialLine{Account: api.Account{Kind: kind, Id: id}, Unit: fmt.Sprintf("coin-%c", 'a'+i), N: n})
			}
		}
		return lines
	}
	here := []int{297, 302, 301, 300, 300}
	equal(t, "the office 1", d.Trial(1), append(units(api.AcOutside, 0, -297, -302, -301, -300, -300), units(api.AcThing, 7, here...)...))
	equal(t, "the office 0", d.Trial(0), append(append(units(api.AcOutside, 0, -3, 2, 1, 0, 0, -300), units(api.AcCrown, 0, 0, 0, 0, 0, 0, 300)...), units(api.AcBank, 0, 3, -2, -1)...))
}

// Twenty lots are carried, and not one more.
func TestTwentyLots(t *testing.T) {
	for extra := range 2 {
		d := must(t, 2, api.MaxSectors, 0)
		same(t, "Rules", d.Rules(0, openRules), api.OK)
		for _, line := range firstLines() {
			same(t, line, d.Publish(0, line), api.OK)
		}
		for _, line := range []string{"unit a 1", "value a 1", "unit b 1", "value b 1", "unit c 3", "term c 1 5"} {
			same(t, line, d.Money(0, line), api.OK)
		}
		same(t, "Arrive", d.Arrive(0, 1, api.Thing{Id: 7, Layers: []api.Layer{{Goods: []api.Amount{{Unit: "a", N: 50}, {Unit: "c", N: 1}}, Pieces: []api.Piece{piece(1, "ann lee"), piece(2, "ayton")}}}}), api.OK)
		_, e := d.Work(0, 7)
		same(t, "Work", e, api.OK)
		for range 19 + extra {
			same(t, "convert", d.Money(0, "convert 1 b 1"), api.OK)
		}
		same(t, "Advance", d.Advance(5), api.OK)
		before := fmt.Sprint(d.Trial(0))
		same(t, "Ship", d.Ship(0, 7, 1), []api.Errno{api.OK, api.ErrLimit}[extra])
		// What is due is forfeited by a command that has no error.
		same(t, "Ship", fmt.Sprint(d.Trial(0)) == before, extra == 1)
	}
}

// 100 messages wait on a line: what finds no room there is not sent.
func TestFullLines(t *testing.T) {
	t.Parallel()
	w := newWalker(t, rand.New(rand.NewSource(1)), api.Config{Offices: 2, Sectors: api.MaxSectors})
	w.quiet = true
	for id := 1; id <= 3; id++ {
		w.arrive(0, 1, api.Thing{Id: id, Layers: make([]api.Layer, 1)})
		w.ship(0, id, 1)
	}
	for range 33 {
		w.offer(0)
	}
	w.repeat(0, 1, 0)
	w.repeat(0, 1, 0)
	same(t, "Repeat", w.d.Repeat(0, 1, 99), api.ErrFull)
	w.offer(0)
	w.carry(0, 1, 0)
	w.offer(0) // one of three bags finds room
	w.lose(0, 1, 99)
	w.offer(0)
	for range 99 {
		w.carry(0, 1, 0)
	}
	w.offer(0)
	w.carry(0, 1, 0)
	w.carry(0, 1, 0) // 101 answers
	for range 100 {
		w.carry(1, 0, 0)
	}
	same(t, "Carry", w.d.Carry(1, 0, 0), api.ErrNone)
	w.quiet = false
	w.offer(1)
	w.check()
}

// A source may have 4000 bytes.
func TestLongSources(t *testing.T) {
	d := must(t, 1, api.MaxSectors, 0)
	long := openRules + "#" + strings.Repeat("x", 3999-len(openRules))
	same(t, "4000", d.Rules(0, long), api.OK)
	same(t, "4001", d.Rules(0, long+"x"), api.ErrLimit)
	same(t, "the text", d.Journal(0)[0].Text, long)
	same(t, "a clash", d.Rules(0, "weights 1 2 3\nrule a rank 1: open 1 if always\nrule b rank 1: leave any if claim\n"), api.ErrClash)
	same(t, "an argument", d.Rules(0, "weights 1 2 1001\n"), api.ErrArg)
	same(t, "nothing", d.Rules(0, ""), api.ErrForm)
	same(t, "no lines of the books have 4000 bytes", d.Publish(0, "people 0 name 1 0 0 "+strings.Repeat("a", 4000)), api.ErrForm)
	d.Crash(0, nil)
	same(t, "the journal", len(d.Journal(0)), 1)
	same(t, "the text", d.Journal(0)[0].Text, long)
}

// The disk is full only if the costs of the commands are greater than its sectors; a command that finds no room has no effect.
func TestFullDisks(t *testing.T) {
	for seed := range int64(4) {
		t.Run(fmt.Sprint(seed), func(t *testing.T) {
			t.Parallel()
			r := rand.New(rand.NewSource(seed))
			w := newWalker(t, r, api.Config{Offices: 2, Sectors: api.MinDesk, Salt: 3})
			w.quiet = true
			w.furnish()
			refused := 0
			for id := 1; refused < 30; id++ {
				w.quiet = refused == 0 && id%20 > 0
				switch {
				case seed%2 == 0 && r.Intn(3) > 0:
					w.rules(0, openRules+"#"+strings.Repeat("x", r.Intn(3900))+"\n")
				case r.Intn(3) > 0:
					w.arrive(0, 1, wide(t, 20+id, 3000+r.Intn(1000)))
				default:
					w.step()
				}
				if last := w.log[len(w.log)-1]; strings.HasSuffix(last, ": 72") {
					refused++
				}
				w.log = w.log[max(0, len(w.log)-3):]
			}
			w.check()
		})
	}
}

// What one command costs at most fits, whatever its disk has besides, if the costs do.
func TestCosts(t *testing.T) {
	t.Parallel()
	d := must(t, 2, api.MinDesk, api.MaxDeskSalt)
	for q := range 2 {
		same(t, "Rules", d.Rules(q, openRules), api.OK) // 420 and 13
	}
	same(t, "Arrive", d.Arrive(0, 1, wide(t, 7, 588)), api.OK) // 420 and 147: 1000 in all
	d = must(t, 2, 65536, api.MaxDeskSalt)
	same(t, "Rules", d.Rules(0, openRules), api.OK)
	left := 65536 - 420 - len(openRules)/4
	for id := 1; left >= 420+1000; id++ {
		same(t, "Arrive", d.Arrive(0, 8, wide(t, id, 4000)), api.OK)
		left -= 420 + 1000
		if left < 420+1000+2 {
			break
		}
		v, e := d.Work(0, id)
		same(t, "Work", e, api.OK)
		same(t, "the verdict", v.Kind, api.VerKeep)
		left -= 420 + 1000 + 2
	}
}
