package people_test

import (
	"fmt"
	"math/rand"
	"slices"
	"testing"

	"restante/api"
	"restante/people"
)

// checkAppend compares Append with the oracle.
func checkAppend(t *testing.T, l []api.Entry, x api.Entry) api.Errno {
	t.Helper()
	longer := append(slices.Clone(l), x)
	what := fmt.Sprintf("Append of %+v", x)
	_, want := checkOf(l)
	if want == api.OK {
		_, want = checkOf(longer)
	}
	got, e := people.Append(l, x)
	same(t, what, e, want)
	if want != api.OK {
		longer = nil
	}
	equal(t, what, got, longer)
	return want
}

func TestListsAgainstTheOracle(t *testing.T) {
	met := map[api.Errno]int{}
	listsOf(t, 3, 400, func(l []api.Entry, r *rand.Rand) {
		i, e := people.Check(l)
		j, f := checkOf(l)
		same(t, "Check", fmt.Sprint(i, e), fmt.Sprint(j, f))
		day := 0
		if len(l) > 0 {
			day = l[len(l)-1].Day
		}
		for range 5 {
			met[checkAppend(t, l, randomEntry(r, day))]++
		}
	})
	for _, e := range []api.Errno{api.OK, api.ErrArg, api.ErrTime, api.ErrNone, api.ErrTwice} {
		if met[e] < 20 {
			t.Errorf("only %d results of Append with the error %d", met[e], e)
		}
	}
}

// Each row is refused behind the sample for the reason that is named, and would be accepted without it.
func TestErrorsOfEntries(t *testing.T) {
	for _, c := range []struct {
		line string
		want api.Errno
	}{
		{"69 live 1 1 0 0", api.ErrTime}, {"70 live 1 1 0 0", api.OK}, {"69 live 3 1 0 0", api.ErrTime}, {"69 death 2 80", api.ErrTime}, {"69 name 3 0 0 a", api.ErrTime},
		{"70 name 3 0 0 a", api.OK}, {"70 name 1 0 0 ann lee", api.OK},
		{"70 live 3 1 0 0", api.ErrNone}, {"70 death 3 1", api.ErrNone}, {"70 heir 3 1 0 0", api.ErrNone}, {"70 heir 1 3 0 0", api.ErrNone}, {"70 heir 1 2 0 0", api.OK},
		{"70 redirect 6 3 0 1 0 0 0", api.ErrNone}, {"70 redirect 6 1 0 3 0 0 0", api.ErrNone}, {"70 redirect 5 1 0 3 0 0 0", api.ErrNone}, {"70 redirect 6 1 999 1 999 0 0", api.OK},
		{"70 refuse 3 0 0 0 0", api.ErrNone}, {"70 refuse 1 0 3 0 0", api.ErrNone}, {"70 refuse 1 0 0 0 0", api.OK}, {"70 refuse 1 0 1 0 0", api.OK},
		{"70 death 2 60", api.ErrTwice}, {"70 death 2 99", api.ErrTwice}, {"70 death 1 99", api.OK},
		{"70 redirect 5 2 0 2 0 0 0", api.ErrTwice}, {"70 redirect 6 1 7 1 0 50 80", api.OK},
		{"70 cancel 6 0", api.ErrNone}, {"70 cancel 5 0", api.OK},
	} {
		x := entry(t, c.line)
		_, e := people.Append(sample(t), x)
		same(t, c.line, e, c.want)
		same(t, c.line, checkAppend(t, sample(t), x), c.want)
	}
	_, e := people.Append(sample(t, "70 cancel 5 90"), entry(t, "70 cancel 5 0"))
	same(t, "a second cancellation", e, api.ErrTwice)
	_, e = people.Append(sample(t, "70 cancel 5 70"), entry(t, "70 redirect 5 1 7 1 0 50 80"))
	same(t, "a cancelled order again", e, api.ErrTwice)
	_, e = people.Append(valid(t, "5 name 1 90 99 a"), entry(t, "5 live 1 1 0 0"))
	same(t, "a person whose name holds later", e, api.OK)
	_, e = people.Append(nil, entry(t, "5 live 1 1 0 0"))
	same(t, "nobody", e, api.ErrNone)
}

// The errors of an entry by itself come before the others; an error of the list comes before those of the new entry.
func TestOrderOfErrors(t *testing.T) {
	l := sample(t)
	broken := append(sample(t), entry(t, "69 death 2 1"))
	for _, c := range []struct {
		x         api.Entry
		want      api.Errno
		whatFails string
	}{
		{api.Entry{Day: 1, Kind: 1, Person: 0, Name: "A"}, api.ErrArg, "fields, name and day"},
		{api.Entry{Day: 1, Kind: 1, Person: 1, Name: "A"}, api.ErrForm, "name and day"},
		{api.Entry{Day: 1, Kind: 1, Person: 1}, api.ErrForm, "no name, and day"},
		{api.Entry{Day: 1, Kind: 3, Person: 2}, api.ErrTime, "day and twice"},
		{api.Entry{Day: 1, Kind: 3, Person: 9}, api.ErrTime, "day and nobody"},
		{api.Entry{Day: 70, Kind: 5, Person: 1, Other: 9, Order: 5}, api.ErrNone, "nobody and twice"},
		{api.Entry{Day: 70, Kind: 8, Person: 1}, api.ErrArg, "the kind"},
		{api.Entry{Day: 70, Person: 1}, api.ErrArg, "no kind"},
	} {
		_, e := people.Append(l, c.x)
		same(t, c.whatFails, e, c.want)
		i, e := people.Check(append(sample(t), c.x))
		same(t, c.whatFails, fmt.Sprint(i, e), fmt.Sprint(len(l), c.want))
		longer, e := people.Append(broken, c.x)
		same(t, "behind a list that is not valid", fmt.Sprint(longer, e), fmt.Sprint([]api.Entry{}, api.ErrTime))
	}
}

// A list has at most 400 entries.
func TestMostEntries(t *testing.T) {
	l := valid(t, "9 name 1 0 0 a", "9 redirect 1 1 0 1 0 0 0", "9 cancel 1 0", "9 death 1 0")
	for len(l) < 400 {
		l = append(l, entry(t, "9 live 1 1 0 0"))
	}
	i, e := people.Check(l)
	same(t, "Check of 400 entries", fmt.Sprint(i, e), "0 0")
	longer, e := people.Append(l[:399], l[399])
	same(t, "Append as the last entry", e, api.OK)
	equal(t, "Append as the last entry", longer, l)
	for line, want := range map[string]api.Errno{"9 name 1 0 0 a": api.ErrLimit, "8 name 1 0 0 a": api.ErrLimit, "9 live 2 1 0 0": api.ErrLimit, "9 death 1 0": api.ErrLimit, "9 cancel 9 0": api.ErrLimit} {
		x := entry(t, line)
		longer, e := people.Append(l, x)
		same(t, "Append of "+line, fmt.Sprint(len(longer), e), fmt.Sprint(0, want))
		i, e := people.Check(append(slices.Clone(l), x, x))
		same(t, "Check with "+line, fmt.Sprint(i, e), fmt.Sprint(400, want))
	}
	for want, x := range map[api.Errno]api.Entry{api.ErrArg: {Kind: 9}, api.ErrForm: {Kind: 1, Person: 1, Name: "A"}} {
		_, e := people.Append(l, x)
		same(t, "Append", e, want)
		i, e := people.Check(append(slices.Clone(l), x))
		same(t, "Check", fmt.Sprint(i, e), fmt.Sprint(400, want))
	}
	l[0].Name = "A"
	i, e = people.Check(append(l, l...))
	same(t, "the first one is refused", fmt.Sprint(i, e), fmt.Sprint(0, api.ErrForm))
}

// P3.1 and the paragraphs of Append and Known.
func TestKnown(t *testing.T) {
	l := entries(t, "5 name 1 0 0 a", "5 name 2 0 0 b", "7 live 1 1 0 0", "6 live 2 2 0 0", "9 death 1 1")
	for day, want := range map[int]int{-1: 0, 4: 0, 5: 2, 6: 2, 7: 4, 8: 4, 9: 5, 100000: 5, 200000: 5} {
		equal(t, fmt.Sprintf("Known on the day %d", day), people.Known(l, day), l[:want])
	}
	equal(t, "Known of nothing", people.Known(nil, 5), nil)
	listsOf(t, 4, 100, func(l []api.Entry, r *rand.Rand) {
		_, e := people.Check(l)
		for day := -1; day < 12; day++ {
			known := people.Known(l, day)
			equal(t, "the beginning", known, l[:len(known)])
			if slices.ContainsFunc(known, func(x api.Entry) bool { return x.Day > day }) || len(known) < len(l) && l[len(known)].Day <= day {
				t.Fatalf("Known on the day %d: %+v", day, known)
			}
			if _, f := people.Check(known); e == api.OK {
				same(t, "Check of Known", f, api.OK)
			}
			for other := -1; other < 12; other++ {
				equal(t, "Known of Known", people.Known(known, other), people.Known(l, min(day, other)))
			}
		}
	})
}

// P3.1: a valid list is accepted entry by entry.
func TestEntryByEntry(t *testing.T) {
	r := rand.New(rand.NewSource(5))
	for range 100 {
		var grown []api.Entry
		l := randomValid(r, 60)
		for _, x := range l {
			longer, e := people.Append(grown, x)
			same(t, fmt.Sprintf("Append of %+v", x), e, api.OK)
			i, e := people.Check(longer)
			same(t, "Check of Append", fmt.Sprint(i, e), "0 0")
			grown = longer
		}
		equal(t, "the list", grown, l)
	}
}

// P3.2: what is entered later changes nothing that was known.
func TestLateEntries(t *testing.T) {
	r := rand.New(rand.NewSource(6))
	for range 100 {
		k := randomValid(r, 60)
		for day := range 12 {
			n := slices.IndexFunc(k, func(x api.Entry) bool { return x.Day > day })
			if n < 0 {
				continue
			}
			for length := n; length <= len(k); length++ {
				equal(t, fmt.Sprintf("Known of %d entries on the day %d", length, day), people.Known(k[:length], day), people.Known(k[:n], day))
			}
		}
	}
}

func TestHolds(t *testing.T) {
	for kind := range 9 {
		endless, ends, once := api.Entry{Kind: uint8(kind), Since: 5}, api.Entry{Kind: uint8(kind), Since: 5, Until: 8}, api.Entry{Kind: uint8(kind), Since: 5, Until: 6}
		never, before := api.Entry{Kind: uint8(kind), Since: 5, Until: 5}, api.Entry{Kind: uint8(kind), Since: -9, Until: -3}
		for day := -12; day < 12; day++ {
			same(t, fmt.Sprintf("from 5 on, the day %d", day), people.Holds(endless, day), day >= 5)
			same(t, fmt.Sprintf("from 5 to 7, the day %d", day), people.Holds(ends, day), day >= 5 && day <= 7)
			same(t, fmt.Sprintf("on 5, the day %d", day), people.Holds(once, day), day == 5)
			same(t, fmt.Sprintf("never, the day %d", day), people.Holds(never, day), false)
			same(t, fmt.Sprintf("from -9 to -4, the day %d", day), people.Holds(before, day), day >= -9 && day <= -4)
		}
		same(t, "the last day", people.Holds(endless, 100000), true)
		same(t, "the day of the entry", people.Holds(api.Entry{Day: 99, Kind: uint8(kind)}, 0), true)
	}
}
