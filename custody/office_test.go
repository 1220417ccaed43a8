package custody_test

import (
	"fmt"
	"math"
	"math/rand"
	"slices"
	"strings"
	"testing"

	"restante/api"
	"restante/custody"
)

// The examples of the chapter.
func TestOfficeExamples(t *testing.T) {
	o, p := start(t, newDisk(t, 100), 0), start(t, newDisk(t, 100), 1)
	done(t, o, enter(7, "ab", ""))
	seq, e := o.Ship(1, []int{7}, "")
	same(t, "Ship", fmt.Sprint(seq, e), "1 0")
	equal(t, "Held", o.Held(), nil)
	text := "bag 0 1 1\n7 2\nab\n"
	equal(t, "Offer", o.Offer(), []api.Letter{{To: 1, Text: text}})
	for range 2 {
		answer, e := p.Hear(text, "")
		same(t, "Hear", fmt.Sprint(answer, e), "got 1 0 1\n0")
		equal(t, "Held", p.Held(), []api.Token{token(7, "ab")})
	}
	answer, e := o.Hear("got 1 0 1\n", "")
	same(t, "Hear", fmt.Sprint(answer, e), "0")
	same(t, "Bags", len(o.Bags()), 0)
	before := textOfHouse(p)
	answer, e = p.Hear("bag 0 1 3\n9 2\nab\n", "note")
	same(t, "Hear", fmt.Sprint(answer, e), "0")
	same(t, "the office", textOfHouse(p), before)
}

// G14
func TestStartErrors(t *testing.T) {
	for _, id := range []int{math.MinInt, -1, 8, math.MaxInt} {
		for _, d := range []*custody.Disk{nil, newDisk(t, 16)} {
			o, e := custody.Start(d, id)
			same(t, "Start", fmt.Sprint(o == nil, e), "true 1")
		}
	}
	for id := range 8 {
		o, e := custody.Start(nil, id)
		same(t, "Start", fmt.Sprint(o == nil, e), "true 3")
		d := newDisk(t, 16)
		for other := range 8 {
			same(t, "a new office", textOfHouse(start(t, d, other)), textOfHouse(newPlainOffice(other)))
		}
		d.Crash(nil)
		o = start(t, d, id)
		done(t, o, leaveNote("note"))
		for other := range 8 {
			if other != id {
				o, e := custody.Start(d, other)
				same(t, "Start of another office", fmt.Sprint(o == nil, e), "true 71")
			}
		}
		equal(t, "Notes", start(t, d, id).Notes(), []string{"note"})
		d.Stop(0)
		d.Flush()
		o, e = custody.Start(d, 9)
		same(t, "Start", fmt.Sprint(o == nil, e), "true 1")
		o, e = custody.Start(d, id)
		same(t, "Start", fmt.Sprint(o == nil, e), "true 70")
	}
}

// recordsOf returns the records of an office that did some calls.
func recordsOf(t *testing.T, id int, calls ...call) []string {
	t.Helper()
	d := newDisk(t, 4000)
	done(t, start(t, d, id), calls...)
	_, records := open(t, d)
	return records
}

// startOf starts an office on a disk with records.
func startOf(t *testing.T, id int, records []string) (*custody.Office, api.Errno) {
	t.Helper()
	d := newDisk(t, 4000)
	j, _ := open(t, d)
	for _, s := range records {
		same(t, "Append", j.Append(s), api.OK)
	}
	same(t, "Sync", j.Sync(), api.OK)
	return custody.Start(d, id)
}

// G14: records that are not those of an office.
func TestStrangeRecords(t *testing.T) {
	for _, s := range []string{"", "hello", strings.Repeat("\xff", 100), noise(1, 60000)} {
		o, e := startOf(t, 0, []string{s})
		same(t, fmt.Sprintf("Start with %.40q", s), fmt.Sprint(o == nil, e), "true 71")
	}
	good := recordsOf(t, 0, enter(7, "ab", "note"), enter(8, "", ""), ship(1, "", 7), burn("x", 8), hear("bag 1 0 1\n9 3\n1 2\n", ""), hear("got 1 0 1\n", "y"))
	o, e := startOf(t, 0, good)
	same(t, "Start", e, api.OK)
	same(t, "the office", textOfHouse(o), "held 9 \"1 2\"; lost [8]; notes [\"note\" \"x\" \"y\"]; heard 0 0 1 0 0 0 0 0 0 0")
	for _, records := range [][]string{append(slices.Clone(good), ""), append(slices.Clone(good), "hello"), slices.Insert(slices.Clone(good), 2, "hello")} {
		o, e := startOf(t, 0, records)
		same(t, "Start", fmt.Sprint(o == nil, e), "true 71")
	}
}

// G14: records that offices write, but none in this order.
func TestImpossibleRecords(t *testing.T) {
	good := recordsOf(t, 0, enter(7, "ab", "note"), change(7, "cd", ""), ship(1, "", 7), hear("bag 1 0 1\n9 3\n1 2\n", ""), burn("x", 9), hear("got 1 0 1\n", "y"), enter(8, "", ""), handOut("", 8))
	same(t, "how many", len(good), 8)
	refuses := func(indices ...int) {
		t.Helper()
		var records []string
		for _, i := range indices {
			records = append(records, good[i])
		}
		o, e := startOf(t, 0, records)
		same(t, fmt.Sprint("Start with ", indices), fmt.Sprint(o == nil, e), "true 71")
	}
	for _, again := range []int{2, 3, 4, 5, 6} {
		refuses(0, 1, 2, 3, 4, 5, 6, again)
	}
	refuses(0, 0)
	refuses(1)
	refuses(2)
	refuses(4)
	refuses(5)
	refuses(7)
	refuses(0, 2, 1)
	refuses(0, 5, 2)
	refuses(0, 6, 7, 7)
}

// Whatever records there are, Start ends, and an office that it returns can go on.
func TestMutatedRecords(t *testing.T) {
	good := recordsOf(t, 3, enter(7, "ab", "note"), enter(8, "", ""), change(8, "xyz", ""), ship(1, "", 7), burn("x", 8), hear("bag 1 3 1\n9 3\n1 2\n", ""), hear("got 1 3 1\n", "y"), leaveNote("z"), handOut("", 9))
	for seed := range int64(6000) {
		r := rand.New(rand.NewSource(seed))
		records := slices.Clone(good)
		for range 1 + r.Intn(2) {
			at := r.Intn(len(records))
			switch r.Intn(4) {
			case 0:
				records = slices.Delete(records, at, at+1)
			case 1:
				records = slices.Insert(records, at, pick(r, good...))
			default:
				records[at] = mutant(r, []string{records[at]})
			}
		}
		o, e := startOf(t, 3, records)
		if e == api.OK {
			done(t, o, leaveNote("more"))
			continue
		}
		same(t, "Start", fmt.Sprint(o == nil, e), "true 71")
	}
}

// R5
func TestNilOffice(t *testing.T) {
	var o *custody.Office
	long := strings.Repeat("n", 8001)
	for _, c := range []call{enter(0, "", long), change(0, "", long), leaveNote(""), leaveNote(long), ship(9, long), hear("hello", long), hear("got 1 0 1\n", ""), hear("bag 1 0 1\n7 0\n\n", ""), burn(long), handOut(long)} {
		text, e := c.run(o)
		same(t, c.what, text+fmt.Sprint(e), "3")
	}
	same(t, "the questions", textOfHouse(o), textOfHouse(newPlainOffice(0)))
}

// crossed are operations with all combinations of good and bad arguments.
func crossed() []call {
	long, most := strings.Repeat("n", 8001), strings.Repeat("n", 8000)
	var calls []call
	for _, note := range []string{"", "note", most, long} {
		calls = append(calls, leaveNote(note))
		for _, id := range []int{math.MinInt, -1, 0, 1, 2, 3, 4, 5, 6, 7, 1000000, 1000001, math.MaxInt} {
			for _, body := range []string{"", "a\nb", strings.Repeat("b", 6000), strings.Repeat("b", 6001)} {
				calls = append(calls, enter(id, body, note), change(id, body, note))
			}
			calls = append(calls, burn(note, id), handOut(note, id), burn(note, 1, id), handOut(note, 1, id), burn(note, id, 1), handOut(note, id, id))
		}
		for _, ids := range [][]int{{}, {1}, {11, 2, 1}, {11, 12, 13, 14, 15, 16, 2, 1}, {11, 12, 13, 14, 15, 16, 2, 1, 17}, {1, 1}, {1, 2, 1}, {9, 1, 1}, {1, 9, 9}, {9, 9}, {9}, {1, 9}, {0}, {math.MinInt, math.MaxInt}, {9, 9, 9, 9, 9, 9, 9, 9, 9}, {4}, {5}} {
			calls = append(calls, burn(note, ids...), handOut(note, ids...))
			for _, to := range []int{math.MinInt, -1, 0, 1, 2, 7, 8, math.MaxInt} {
				calls = append(calls, ship(to, note, ids...))
			}
		}
		for _, m := range []string{"", "hello", "got 1 0 1\n", "got 1 0 2\n", "got 1 0 3\n", "got 2 0 1\n", "got 3 0 1\n", "got 0 1 1\n", "got 1 0 1000000\n", "got 1 0 1000001\n", "got 2 1 1\n", "bag 2 0 1\n4 1\na\n", "bag 2 0 2\n4 1\na\n5 0\n\n", "bag 2 0 3\n4 1\na\n", "bag 2 0 1000000\n4 1\na\n", "bag 2 1 1\n4 1\na\n", "bag 2 2 1\n4 1\na\n", "bag 0 2 1\n4 1\na\n", "bag 1 0 1\n1 1\na\n3 1\nb\n4 1\nc\n"} {
			calls = append(calls, hear(m, note))
		}
	}
	return calls
}

// prepared are operations behind which an office holds 1, 2 and 11 to 17, has lost 4, does not hold 3 (it is in a bag) and 5, and has received a bag from the office 2.
func prepared() []call {
	calls := []call{enter(1, "one", "first"), enter(2, "", ""), enter(3, "three", ""), enter(4, "", ""), enter(5, "", ""), enter(6, "", ""), ship(1, "", 6), ship(1, "", 3), burn("", 4), handOut("", 5), hear("got 1 0 1\n", ""), hear("bag 2 0 1\n11 2\nxy\n", "heard")}
	for id := 12; id <= 17; id++ {
		calls = append(calls, enter(id, "", ""))
	}
	return calls
}

// G15 to G19, R1: every combination of arguments has the result and the error of the oracle, which checks in the order of the chapter.
func TestErrorsInTheirOrder(t *testing.T) {
	met := map[api.Errno]int{}
	for _, c := range crossed() {
		d := newDisk(t, 3000)
		o, p := start(t, d, 0), newPlainOffice(0)
		for _, x := range prepared() {
			same(t, x.what, both(t, o, p, x), api.OK)
		}
		_, before := open(t, d)
		o = start(t, d, 0)
		had := textOfHouse(p)
		e := both(t, o, p, c)
		met[e]++
		same(t, "the office behind "+c.what, textOfHouse(o), textOfHouse(p))
		same(t, "the office that is started behind "+c.what, textOfHouse(start(t, d, 0)), textOfHouse(p))
		if _, behind := open(t, d); e != api.OK || textOfHouse(p) == had && strings.HasPrefix(c.what, "Hear") {
			equal(t, "the records behind "+c.what, behind, before)
		}
	}
	for _, e := range []api.Errno{api.OK, api.ErrArg, api.ErrLimit, api.ErrForm, api.ErrNone, api.ErrTwice} {
		if met[e] < 10 {
			t.Errorf("only %d calls with the error %d", met[e], e)
		}
	}
}

// The errors of the journal come behind all others.
func TestErrorsOfTheJournal(t *testing.T) {
	big := noise(1, 8000)
	for _, down := range []bool{false, true} {
		want := api.ErrFull
		o, d := prepareForErrors(t)
		if down {
			want = api.ErrDown
			d.Stop(0)
			d.Flush()
		}
		refused(t, o, want, enter(9, "", big), change(1, "", big), leaveNote(big), ship(1, big, 1), ship(2, big, 2, 1), burn(big, 1), handOut(big, 1), hear("got 1 0 1\n", big), hear("bag 1 0 1\n8 0\n\n", big))
		refused(t, o, api.ErrLimit, enter(9, "", big+"1"), change(1, "", big+"1"), leaveNote(big+"1"), ship(1, big+"1", 1), burn(big+"1", 1), handOut(big+"1", 1), hear("hello", big+"1"))
		refused(t, o, api.ErrArg, enter(0, "", big), change(0, "", big), leaveNote(""), ship(0, big, 1), ship(8, big, 1), hear("got 0 1 1\n", big))
		refused(t, o, api.ErrTwice, enter(1, "", big), enter(3, "", big), enter(4, "", big), ship(1, big, 1, 1), burn(big, 1, 1), handOut(big, 2, 2))
		refused(t, o, api.ErrNone, change(3, "", big), ship(1, big, 3), burn(big, 9), handOut(big, 4))
		refused(t, o, api.ErrForm, hear("hello", big), hear("got 1 0 01\n", big))
		before := textOfHouse(o)
		d.Crash(nil)
		same(t, "the office", textOfHouse(start(t, d, 0)), before)
	}
}

// G17: what has no effect needs no room.
func TestHearingWithoutEffect(t *testing.T) {
	o, d := prepareForErrors(t)
	before := textOfHouse(o)
	for m, want := range map[string]string{"bag 2 0 1\n5 0\n\n": "got 0 2 1\n", "bag 2 0 3\n5 0\n\n": "", "got 1 0 2\n": "", "got 5 0 1\n": ""} {
		answer, e := o.Hear(m, noise(1, 8000))
		same(t, "Hear", fmt.Sprint(answer, e), want+"0")
		same(t, "the office", textOfHouse(o), before)
	}
	d.Crash(nil)
	same(t, "the office", textOfHouse(start(t, d, 0)), before)
}

// prepareForErrors returns an office that holds 1 and 2, has 3 in a bag for the office 1, has lost 4, and has received a bag from the office 2.
func prepareForErrors(t *testing.T) (*custody.Office, *custody.Disk) {
	t.Helper()
	d := newDisk(t, 100)
	o := start(t, d, 0)
	done(t, o, enter(1, "one", "first"), enter(2, "", ""), enter(3, "three", ""), enter(4, "", ""), ship(1, "", 3), burn("", 4), hear("bag 2 0 1\n5 0\n\n", ""))
	return o, d
}

// G15: half of the sectors have room for operations of these costs.
func TestRoomForOperations(t *testing.T) {
	filled := 0
	for seed := range int64(250) {
		r := rand.New(rand.NewSource(seed))
		sectors := 16 + r.Intn(pick(r, 10, 100, 1000))
		d := newDisk(t, sectors)
		o, p := start(t, d, 0), newPlainOffice(0)
		cost := 0
		for range 400 {
			c := chance{r}.operation(p)
			if cost+c.cost > sectors/2 {
				filled++
				break
			}
			before := textOfHouse(p)
			if both(t, o, p, c) == api.OK && (textOfHouse(p) != before || !strings.HasPrefix(c.what, "Hear")) {
				cost += c.cost
			}
		}
		// Now that there is perhaps no room any more, each call has its result, or ErrFull.
		for range 20 {
			c := chance{r}.operation(p)
			before := textOfHouse(o)
			text, e := c.run(o)
			if e == api.ErrFull {
				same(t, c.what, text, "")
				same(t, "the office", textOfHouse(o), before)
				continue
			}
			wanted, f := c.run(p)
			same(t, c.what, text+fmt.Sprint(e), wanted+fmt.Sprint(f))
		}
		d.Crash(nil)
		same(t, "the office", textOfHouse(start(t, d, 0)), textOfHouse(p))
	}
	if filled < 150 {
		t.Errorf("only %d disks", filled)
	}
}

// G16, G17: the greatest bags and notes have room in a record.
func TestGreatestOperations(t *testing.T) {
	d, e := newDisk(t, 65536), newDisk(t, 65536)
	o, p := start(t, d, 0), start(t, e, 1)
	note := noise(1, 8000)
	var ids []int
	for i := range 8 {
		done(t, o, enter(999993+i, noise(int64(i), 6000), note))
		ids = append(ids, 1000000-i)
	}
	done(t, o, ship(1, note, ids...))
	answer, f := p.Hear(o.Offer()[0].Text, note)
	same(t, "Hear", fmt.Sprint(answer, f), "got 1 0 1\n0")
	done(t, o, hear(answer, note))
	d.Crash(nil)
	e.Crash(nil)
	same(t, "Notes", len(start(t, d, 0).Notes()), 10)
	p = start(t, e, 1)
	for i, x := range p.Held() {
		same(t, "a token", x, token(999993+i, noise(int64(i), 6000)))
	}
	done(t, p, burn(note, ids[:4]...), handOut(note, ids[4:]...))
	e.Crash(nil)
	equal(t, "Lost", start(t, e, 1).Lost(), []int{999997, 999998, 999999, 1000000})
}

// Bags have their own numbers for each office, and are offered by office and number.
func TestManyBags(t *testing.T) {
	o, p := start(t, newDisk(t, 4000), 3), newPlainOffice(3)
	r := rand.New(rand.NewSource(1))
	for id := 1; id <= 90; id++ {
		to := pick(r, 0, 1, 2, 4, 5, 6, 7)
		for _, c := range []call{enter(id, fmt.Sprint(id), ""), ship(to, "", id)} {
			same(t, c.what, both(t, o, p, c), api.OK)
		}
		if r.Intn(3) == 0 {
			both(t, o, p, hear(fmt.Sprintf("got %d 3 %d\n", to, 1+r.Intn(8)), ""))
		}
		same(t, "the office", textOfHouse(o), textOfHouse(p))
	}
	letters := o.Offer()
	for i, b := range o.Bags() {
		text, e := custody.PutBag(b)
		same(t, "PutBag", e, api.OK)
		same(t, "the letter", letters[i], api.Letter{To: b.To, Text: text})
	}
}
