package places_test

import (
	"fmt"
	"math"
	"math/rand"
	"strings"
	"testing"

	"restante/api"
	"restante/places"
)

func TestNewHasNoEvents(t *testing.T) {
	g := places.New()
	if g == nil {
		t.Fatal("New returns nil")
	}
	equal(t, "Events", g.Events(), nil)
	equal(t, "All", g.All(0), nil)
	equal(t, "All", g.All(100000), nil)
	equal(t, "Changes", g.Changes(1), nil)
	same(t, "Exists", g.Exists(0, 0), false)
	same(t, "GoesOn", g.GoesOn(1, 0), 0)
	if g, i, e := places.Open(nil); g == nil || i != 0 || e != api.OK {
		t.Fatalf("Open(nil) returns %v, %d, %d", g, i, e)
	}
}

func TestAddReturnsTheFirstError(t *testing.T) {
	// 1 contains 2, and 2 contains 3; 4 has ceased, and goes on in 1; 5 is a root.
	begin := []string{"10 found 1 0 one", "10 found 2 1 two", "10 found 3 2 three", "11 found 4 0 four", "12 merge 4 1", "13 found 5 0 five"}
	for _, x := range []struct {
		e    api.PlaceEvent
		want api.Errno
	}{
		// 1: the form comes before all else
		{api.PlaceEvent{Day: -1, Kind: 1, Place: 1, Name: "A"}, api.ErrArg},
		{api.PlaceEvent{Day: 100001, Kind: 1, Place: 9, Name: "a"}, api.ErrArg},
		{api.PlaceEvent{Day: math.MinInt, Kind: 1, Place: 9, Name: "a"}, api.ErrArg},
		{api.PlaceEvent{Day: math.MaxInt, Kind: 1, Place: 9, Name: "a"}, api.ErrArg},
		{api.PlaceEvent{Day: 13, Kind: 0, Place: 9, Name: "a"}, api.ErrArg},
		{api.PlaceEvent{Day: 13, Kind: 6, Place: 9, Name: "a"}, api.ErrArg},
		{api.PlaceEvent{Day: 13, Kind: 255, Place: 9}, api.ErrArg},
		{api.PlaceEvent{Day: 13, Kind: 1, Place: 0, Name: "a"}, api.ErrArg},
		{api.PlaceEvent{Day: 13, Kind: 1, Place: 1000001, Name: "a"}, api.ErrArg},
		{api.PlaceEvent{Day: 13, Kind: 1, Place: math.MinInt, Name: "a"}, api.ErrArg},
		{api.PlaceEvent{Day: 13, Kind: 1, Place: 9, Other: -1, Name: "a"}, api.ErrArg},
		{api.PlaceEvent{Day: 13, Kind: 1, Place: 9, Other: 1000001, Name: "a"}, api.ErrArg},
		{api.PlaceEvent{Day: 13, Kind: 1, Place: 9, Other: math.MaxInt, Name: ""}, api.ErrArg},
		{api.PlaceEvent{Day: 13, Kind: 2, Place: 1, Other: 1, Name: "a"}, api.ErrArg},
		{api.PlaceEvent{Day: 13, Kind: 5, Place: 1, Other: 1, Name: ""}, api.ErrArg},
		{api.PlaceEvent{Day: 13, Kind: 3, Place: 1, Other: 5, Name: "a"}, api.ErrArg},
		{api.PlaceEvent{Day: 13, Kind: 3, Place: 1, Other: -5}, api.ErrArg},
		{api.PlaceEvent{Day: 13, Kind: 3, Place: 1, Other: 1000001}, api.ErrArg},
		{api.PlaceEvent{Day: 13, Kind: 4, Place: 1, Other: 5, Name: "A"}, api.ErrArg},
		{api.PlaceEvent{Day: 13, Kind: 4, Place: 1, Other: 1}, api.ErrArg},
		{api.PlaceEvent{Day: 13, Kind: 4, Place: 1, Other: 0}, api.ErrArg},
		{api.PlaceEvent{Day: 13, Kind: 4, Place: 1, Other: 1000001}, api.ErrArg},
		{api.PlaceEvent{Day: 0, Kind: 1, Place: 1, Other: 9, Name: ""}, api.ErrForm},
		{api.PlaceEvent{Day: 0, Kind: 2, Place: 9, Name: " a"}, api.ErrForm},
		{api.PlaceEvent{Day: 0, Kind: 5, Place: 9, Name: "A"}, api.ErrForm},
		{api.PlaceEvent{Day: 0, Kind: 5, Place: 9, Name: strings.Repeat("a", 25)}, api.ErrForm},
		// 3: the day
		{api.PlaceEvent{Day: 12, Kind: 1, Place: 1, Name: "a"}, api.ErrTime},
		{api.PlaceEvent{Day: 12, Kind: 2, Place: 9, Name: "a"}, api.ErrTime},
		// 4: the place
		{api.PlaceEvent{Day: 13, Kind: 1, Place: 1, Other: 9, Name: "a"}, api.ErrTwice},
		{api.PlaceEvent{Day: 13, Kind: 1, Place: 4, Other: 4, Name: "a"}, api.ErrTwice},
		{api.PlaceEvent{Day: 13, Kind: 2, Place: 9, Name: "a"}, api.ErrNone},
		{api.PlaceEvent{Day: 13, Kind: 3, Place: 9, Other: 4}, api.ErrNone},
		{api.PlaceEvent{Day: 13, Kind: 4, Place: 4, Other: 9}, api.ErrGone},
		{api.PlaceEvent{Day: 13, Kind: 5, Place: 4, Name: "four"}, api.ErrGone},
		// 5: the other place
		{api.PlaceEvent{Day: 13, Kind: 1, Place: 9, Other: 8, Name: "a"}, api.ErrNone},
		{api.PlaceEvent{Day: 13, Kind: 1, Place: 9, Other: 9, Name: "a"}, api.ErrNone},
		{api.PlaceEvent{Day: 13, Kind: 1, Place: 9, Other: 4, Name: "a"}, api.ErrGone},
		{api.PlaceEvent{Day: 13, Kind: 3, Place: 1, Other: 4}, api.ErrGone},
		{api.PlaceEvent{Day: 13, Kind: 4, Place: 1, Other: 1000000}, api.ErrNone},
		// 6: a place inside itself
		{api.PlaceEvent{Day: 13, Kind: 3, Place: 1, Other: 1}, api.ErrLoop},
		{api.PlaceEvent{Day: 13, Kind: 3, Place: 1, Other: 3}, api.ErrLoop},
		{api.PlaceEvent{Day: 13, Kind: 4, Place: 1, Other: 2}, api.ErrLoop},
		{api.PlaceEvent{Day: 13, Kind: 4, Place: 1, Other: 3}, api.ErrLoop},
		// 8: names
		{api.PlaceEvent{Day: 13, Kind: 2, Place: 1, Name: "one"}, api.ErrTwice},
		{api.PlaceEvent{Day: 13, Kind: 5, Place: 1, Name: "one"}, api.ErrTwice},
		{api.PlaceEvent{Day: 13, Kind: 5, Place: 1, Name: "four"}, api.ErrTwice},
		// what is allowed
		{api.PlaceEvent{Day: 13, Kind: 2, Place: 1, Name: "four"}, api.OK},
		{api.PlaceEvent{Day: 13, Kind: 3, Place: 3, Other: 2}, api.OK},
		{api.PlaceEvent{Day: 13, Kind: 3, Place: 1, Other: 0}, api.OK},
		{api.PlaceEvent{Day: 13, Kind: 3, Place: 1, Other: 5}, api.OK},
		{api.PlaceEvent{Day: 13, Kind: 4, Place: 3, Other: 1}, api.OK},
		{api.PlaceEvent{Day: 13, Kind: 4, Place: 2, Other: 1}, api.OK},
		{api.PlaceEvent{Day: 13, Kind: 1, Place: 1000000, Other: 3, Name: strings.Repeat("a", 24)}, api.OK},
		{api.PlaceEvent{Day: 100000, Kind: 1, Place: 9, Name: "a"}, api.OK},
	} {
		g := open(t, begin...)
		same(t, fmt.Sprintf("Add of %v", x.e), g.Add(x.e), x.want)
		want := open(t, begin...).Events()
		if x.want == api.OK {
			want = append(want, x.e)
		}
		equal(t, fmt.Sprintf("Events after %v", x.e), g.Events(), want)
	}
}

func TestAddComparesWithTheLastTrueName(t *testing.T) {
	g := open(t, "1 found 1 0 a", "2 rename 1 b", "3 alias 1 c")
	same(t, "rename to the last true name", g.Add(event(t, "3 rename 1 b")), api.ErrTwice)
	same(t, "rename to an alias", g.Add(event(t, "3 rename 1 c")), api.OK)
	same(t, "rename to an older name", g.Add(event(t, "3 rename 1 a")), api.OK)
	same(t, "alias of a name that is remembered, but not open", g.Add(event(t, "3 alias 1 b")), api.OK)
	same(t, "alias of an open alias", g.Add(event(t, "3 alias 1 b")), api.ErrTwice)
	same(t, "alias of an open true name", g.Add(event(t, "3 alias 1 a")), api.ErrTwice)
	late := open(t, "96350 found 1 0 a", "96350 rename 1 b", "96351 rename 1 c")
	same(t, "a name that ends with the last day is not open", late.Add(event(t, "96351 alias 1 a")), api.OK)
	same(t, "a name that ends behind the last day is open", late.Add(event(t, "96351 alias 1 b")), api.ErrTwice)
}

func TestAddAgainstTheOracle(t *testing.T) {
	r := rand.New(rand.NewSource(1))
	met := map[api.Errno]int{}
	for range 400 {
		g := places.New()
		var events []api.PlaceEvent
		day := 0
		ids := 4 + r.Intn(12)
		for range 80 {
			e := randomEvent(r, day, ids)
			want := addError(events, e)
			same(t, fmt.Sprintf("Add of %v after %v", e, events), g.Add(e), want)
			met[want]++
			if want == api.OK {
				events = append(events, e)
				day = e.Day
			}
		}
		equal(t, "Events", g.Events(), events)
	}
	for _, e := range []api.Errno{api.OK, api.ErrArg, api.ErrForm, api.ErrTime, api.ErrNone, api.ErrGone, api.ErrTwice, api.ErrLoop} {
		if met[e] < 20 {
			t.Errorf("only %d events with the error %d", met[e], e)
		}
	}
}

// chain returns the lines of places, each inside the one before.
func chain(first, n int) []string {
	var lines []string
	for i := range n {
		around := first + i - 1
		if i == 0 {
			around = 0
		}
		lines = append(lines, fmt.Sprintf("1 found %d %d a", first+i, around))
	}
	return lines
}

func TestMaxDepth(t *testing.T) {
	for _, x := range []struct {
		a, b int // the lengths of two chains, from the places 1 and 101 on
		line string
		want api.Errno
	}{
		{7, 0, "1 found 50 7 a", api.OK},
		{8, 0, "1 found 50 8 a", api.ErrDeep},
		{8, 0, "1 move 1 0", api.OK},
		{8, 0, "1 move 2 0", api.OK},
		{8, 0, "1 move 8 7", api.OK},
		{3, 5, "1 move 101 3", api.OK},
		{3, 6, "1 move 101 3", api.ErrDeep},
		{4, 5, "1 move 101 4", api.ErrDeep},
		{4, 5, "1 move 102 4", api.OK},
		{5, 8, "1 move 105 5", api.ErrDeep},
		{4, 8, "1 move 105 4", api.OK},
		{8, 8, "1 move 105 103", api.OK},
		{8, 8, "1 move 108 8", api.ErrDeep},
		{8, 1, "1 merge 101 8", api.OK},
		{8, 2, "1 merge 101 8", api.ErrDeep},
		{3, 6, "1 merge 101 3", api.OK},
		{3, 7, "1 merge 101 3", api.ErrDeep},
		{8, 8, "1 merge 108 8", api.OK},
		{8, 8, "1 merge 107 8", api.ErrDeep},
		{8, 8, "1 merge 107 7", api.OK},
	} {
		g := open(t, append(chain(1, x.a), chain(101, x.b)...)...)
		same(t, fmt.Sprintf("%d and %d levels, %s", x.a, x.b, x.line), g.Add(event(t, x.line)), x.want)
	}
	// the deepest place of several branches decides, not the last or the first one
	g := open(t, append(chain(1, 3), "1 found 10 0 a", "1 found 12 10 a", "1 found 13 12 a", "1 found 14 13 a", "1 found 15 14 a", "1 found 16 15 a", "1 found 17 10 a", "1 found 11 10 a")...)
	same(t, "a branch of six levels", g.Add(event(t, "1 move 10 3")), api.ErrDeep)
	same(t, "a branch of six levels", g.Add(event(t, "1 move 10 2")), api.OK)
}

func TestMaxNames(t *testing.T) {
	// with returns lines after which the place 1 has n uses.
	with := func(n int) []string {
		lines := []string{"1 found 1 0 a", "1 found 2 0 y", "1 alias 2 z"}
		for i := range n - 1 {
			lines = append(lines, fmt.Sprintf("1 alias 1 b%d", i))
		}
		return lines
	}
	for _, x := range []struct {
		n    int
		line string
		want api.Errno
	}{
		{15, "1 alias 1 x", api.OK},
		{16, "1 alias 1 x", api.ErrLimit},
		{16, "1 alias 1 b3", api.ErrTwice},
		{15, "1 rename 1 x", api.OK},
		{16, "1 rename 1 x", api.ErrLimit},
		{16, "1 rename 1 a", api.ErrTwice},
		{14, "1 merge 2 1", api.OK},
		{15, "1 merge 2 1", api.ErrLimit},
		{16, "1 merge 2 1", api.ErrLimit},
		{16, "1 merge 1 2", api.ErrLimit},
		{14, "1 merge 1 2", api.OK},
		{15, "1 merge 1 2", api.ErrLimit},
	} {
		g := open(t, with(x.n)...)
		same(t, fmt.Sprintf("%d uses, %s", x.n, x.line), g.Add(event(t, x.line)), x.want)
	}
	// aliases that are open already do not come again, and names that have ended do not come at all
	g := open(t, append(with(14), "1 alias 1 z")...)
	same(t, "one of two names is there", g.Add(event(t, "1 merge 2 1")), api.OK)
	g = open(t, append(with(15), "2 rename 2 z")...)
	same(t, "all uses of y have ended", g.Add(event(t, "3652 merge 2 1")), api.OK)
	g = open(t, append(with(15), "2 rename 2 z")...)
	same(t, "a use of y has not ended", g.Add(event(t, "3651 merge 2 1")), api.ErrLimit)
}

func TestMaxPlaceEvents(t *testing.T) {
	var events []api.PlaceEvent
	for i := range 401 {
		events = append(events, api.PlaceEvent{Day: 7, Kind: api.PlaceFound, Place: 1 + i, Name: "a"})
	}
	g, i, e := places.Open(events[:400])
	if g == nil || i != 0 || e != api.OK {
		t.Fatalf("Open of 400 events returns the index %d and the error %d", i, e)
	}
	equal(t, "Events", g.Events(), events[:400])
	same(t, "the event 401", g.Add(events[400]), api.ErrLimit)
	same(t, "the form comes first", g.Add(api.PlaceEvent{}), api.ErrArg)
	same(t, "the form comes first", g.Add(api.PlaceEvent{Kind: 1, Place: 1}), api.ErrForm)
	same(t, "the limit comes before the day", g.Add(event(t, "6 found 500 0 a")), api.ErrLimit)
	equal(t, "Events", g.Events(), events[:400])
	g, i, e = places.Open(events)
	if g != nil || i != 400 || e != api.ErrLimit {
		t.Fatalf("Open of 401 events returns %v, %d and %d", g, i, e)
	}
}

func TestOpenIsAddOfEachEvent(t *testing.T) {
	r := rand.New(rand.NewSource(2))
	for range 200 {
		var events []api.PlaceEvent
		day := 0
		wantIndex, wantError := 0, api.OK
		for range 6 + r.Intn(20) {
			e := randomEvent(r, day, 6)
			if wantError == api.OK { // what comes after the first refused event does not matter
				wantError = addError(events, e)
				if wantError != api.OK && r.Intn(4) > 0 {
					wantError = api.OK
					continue
				}
				wantIndex = len(events)
			}
			events = append(events, e)
			day = e.Day
		}
		if wantError == api.OK {
			wantIndex = 0
		}
		g, i, e := places.Open(events)
		if i != wantIndex || e != wantError || (g == nil) != (wantError != api.OK) {
			t.Fatalf("Open(%v) returns %v, %d, %d; want the index %d and the error %d", events, g, i, e, wantIndex, wantError)
		}
		if g != nil {
			equal(t, "Events", g.Events(), events)
		}
	}
}

func TestAddAfterQueries(t *testing.T) {
	r := rand.New(rand.NewSource(3))
	events := randomEvents(r, 60, 6)
	g := places.New()
	for i, e := range events {
		for _, day := range []int{0, e.Day, 100000} { // what was asked does not change what is added later
			g.All(day)
			g.Changes(e.Place)
		}
		same(t, "Add", g.Add(e), api.OK)
		h, _, _ := places.Open(events[:i+1])
		equal(t, "History", g.History(e.Place), h.History(e.Place))
	}
}
