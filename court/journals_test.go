package court_test

import (
	"fmt"
	"math"
	"math/rand"
	"slices"
	"sort"
	"testing"

	"restante/api"
	"restante/court"
)

// errorOf follows the chapter's section on errors.
func errorOf(j [][]api.Record) api.Errno {
	if len(j) > 8 {
		return api.ErrLimit
	}
	for q, l := range j {
		if len(l) > 4000 {
			return api.ErrLimit
		}
		day := 0
		for i, r := range l {
			if !wellFormed(r) || r.Seq != i || r.Office != q {
				return api.ErrArg
			}
			if r.Day < day {
				return api.ErrTime
			}
			day = r.Day
		}
	}
	return api.OK
}

// refused fails unless all functions that take journals return an error, and nothing else.
func refused(t *testing.T, what string, j [][]api.Record, want api.Errno) {
	t.Helper()
	refs, e := court.Join(j)
	fails(t, what+": Join", e, want, refs)
	refs, e = court.Story(j, 1)
	fails(t, what+": Story", e, want, refs)
	ruling, e := court.Audit(j, 1)
	fails(t, what+": Audit", e, want, ruling)
	party, e := court.Party(j, 1, 1)
	fails(t, what+": Party", e, want, party)
	c := api.Claim{Id: 1, Person: 1, Thing: 1, Ask: 1}
	ruling, e = court.Answer(j, c)
	fails(t, what+": Answer", e, want, ruling)
	fields, e := court.May(j, c, api.Ref{})
	fails(t, what+": May", e, want, fields)
	b, e := court.Bundle(j, c)
	fails(t, what+": Bundle", e, want, b)
}

// numbered returns journals in which Seq and Office are as they have to be.
func numbered(j [][]api.Record) [][]api.Record {
	for q, l := range j {
		for i := range l {
			l[i].Seq, l[i].Office = i, q
		}
	}
	return j
}

func kept(n int) []api.Record {
	return slices.Repeat([]api.Record{{Kind: api.RecKeep, Room: 1, Thing: 1}}, n)
}

// Errors: which lists are journals, and the order of the errors of all functions that take them.
func TestErrorsOfJournals(t *testing.T) {
	bad := func(f func(j [][]api.Record)) [][]api.Record {
		j := numbered([][]api.Record{kept(3), kept(3)})
		for i := range j[0] {
			j[0][i].Day, j[1][i].Day = 5, 5
		}
		f(j)
		return j
	}
	for _, x := range []struct {
		what string
		j    [][]api.Record
		want api.Errno
	}{
		{"9 lists", make([][]api.Record, 9), api.ErrLimit},
		{"9 lists with bad records", slices.Repeat([][]api.Record{{{}}}, 9), api.ErrLimit},
		{"4001 records", numbered([][]api.Record{kept(4001)}), api.ErrLimit},
		{"4001 bad records", [][]api.Record{make([]api.Record, 4001)}, api.ErrLimit},
		{"a bad record before 4001", [][]api.Record{{{}}, kept(4001)}, api.ErrArg},
		{"an early day before 4001", append(bad(func(j [][]api.Record) { j[1][1].Day = 4 }), kept(4001)), api.ErrTime},
		{"a bad record", bad(func(j [][]api.Record) { j[1][2].Room = 9 }), api.ErrArg},
		{"a bad Seq", bad(func(j [][]api.Record) { j[1][2].Seq = 1 }), api.ErrArg},
		{"a bad Office", bad(func(j [][]api.Record) { j[1][2].Office = 0 }), api.ErrArg},
		{"an early day", bad(func(j [][]api.Record) { j[1][2].Day = 4 }), api.ErrTime},
		{"a bad record with an early day", bad(func(j [][]api.Record) { j[1][2] = api.Record{} }), api.ErrArg},
		{"an early day before a bad record", bad(func(j [][]api.Record) { j[0][1].Day = 4; j[0][2].Room = 0 }), api.ErrTime},
		{"a bad record before an early day", bad(func(j [][]api.Record) { j[0][1].Room = 0; j[0][2].Day = 4 }), api.ErrArg},
		{"an early day in the list before a bad record", bad(func(j [][]api.Record) { j[0][1].Day = 4; j[1][0].Room = 0 }), api.ErrTime},
	} {
		same(t, "the oracle for "+x.what, errorOf(x.j), x.want)
		refused(t, x.what, x.j, x.want)
	}
	for _, j := range [][][]api.Record{nil, {}, {nil}, make([][]api.Record, 8), bad(func(j [][]api.Record) { j[0][2].Day = 6 }), numbered([][]api.Record{kept(4000), kept(1)})} {
		refs, e := court.Join(j)
		same(t, "Join", e, api.OK)
		equal(t, "Join", refs, plainJoin(j))
	}
}

// Errors: journals whose records have any values.
func TestSpoiltJournals(t *testing.T) {
	met := map[api.Errno]int{}
	for seed := range int64(3000) {
		r := rand.New(rand.NewSource(seed))
		j := wildJournals(r, 1+r.Intn(3), r.Intn(10))
		for range 1 + r.Intn(3) {
			q := r.Intn(len(j))
			switch n := len(j[q]); {
			case n > 0 && r.Intn(3) > 0:
				i := r.Intn(n)
				j[q][i] = spoilt(r, j[q][i])
			case n > 0:
				j[q][r.Intn(n)].Day = r.Intn(6)
			}
		}
		want := errorOf(j)
		met[want]++
		if want != api.OK {
			refused(t, fmt.Sprint(j), j, want)
			continue
		}
		refs, e := court.Join(j)
		same(t, "Join", e, api.OK)
		equal(t, "Join", refs, plainJoin(j))
	}
	for _, e := range []api.Errno{api.OK, api.ErrArg, api.ErrTime} {
		if met[e] < 100 {
			t.Errorf("only %d of the error %d", met[e], e)
		}
	}
}

// plainJoin follows H10.
func plainJoin(j [][]api.Record) []api.Ref {
	var l []api.Ref
	for q := range j {
		for i := range j[q] {
			l = append(l, api.Ref{Journal: q, Index: i})
		}
	}
	sort.Slice(l, func(a, b int) bool { return ahead(j, l[a], l[b]) })
	return l
}

// ahead reports whether a ref comes before another one in the order of Join.
func ahead(j [][]api.Record, a, b api.Ref) bool {
	if x, y := get(j, a).Day, get(j, b).Day; x != y {
		return x < y
	}
	if a.Journal != b.Journal {
		return a.Journal < b.Journal
	}
	return a.Index < b.Index
}

func get(j [][]api.Record, ref api.Ref) api.Record { return j[ref.Journal][ref.Index] }

// isStoryRecord follows the chapter.
func isStoryRecord(r api.Record) bool {
	return slices.Contains([]uint8{1, 2, 3, 4, 5, 6, 7, 8, 9, 15}, r.Kind) || r.Kind == api.RecMoney && r.Verdict == api.WhyDeposit
}

// plainStory follows the chapter.
func plainStory(j [][]api.Record, thing int) []api.Ref {
	var story []api.Ref
	all := plainJoin(j)
	for _, ref := range all {
		if r := get(j, ref); r.Kind == api.RecArrive && r.Thing == thing {
			story = append(story, ref)
			break
		}
	}
	for i := 0; i < len(story); i++ {
		last := get(j, story[i])
		var next []api.Ref
		for q, l := range j {
			for k, r := range l {
				ref := api.Ref{Journal: q, Index: k}
				behind := last.Kind != api.RecShip && q == last.Office && k > last.Seq && r.Thing == thing && isStoryRecord(r)
				comes := last.Kind == api.RecShip && q == last.Place && r.Kind == api.RecReceive && r.Thing == thing && r.Place == last.Office && r.N == last.N && !slices.Contains(story, ref)
				if behind || comes {
					next = append(next, ref)
				}
			}
		}
		if len(next) > 0 {
			story = append(story, next[0])
		}
	}
	return story
}

// wildJournals returns journals of any records of few things, whose bags have few numbers.
func wildJournals(r *rand.Rand, offices, length int) [][]api.Record {
	j := make([][]api.Record, offices)
	for q := range j {
		day := r.Intn(2)
		for range length {
			day += pick(r, 0, 0, 0, 0, 1)
			x := randomRecord(r, pick[uint8](r, 1, 7, 7, 8, 8, 8, 15, 15, 15, uint8(1+r.Intn(15))))
			if x.Thing > 0 {
				x.Thing = pick(r, 1, 1, 1, 1, 1, 2)
			}
			if x.Kind == api.RecArrive {
				x.N = pick(r, 0, day, day+1)
			}
			if x.Kind == api.RecShip || x.Kind == api.RecReceive {
				x.Place, x.N = pick(r, (q+1)%max(2, offices), (q+2)%max(3, offices)), 1+r.Intn(2)
			}
			x.Day, x.Salt = day, r.Intn(100)
			j[q] = append(j[q], x)
		}
	}
	return numbered(j)
}

// H10, H11: the order of records, and stories, also those that come back to a journal before where they left it.
func TestStories(t *testing.T) {
	t.Parallel()
	lengths := map[string]int{}
	for seed := range int64(3000) {
		r := rand.New(rand.NewSource(seed))
		j := wildJournals(r, 1+r.Intn(3), r.Intn(24))
		same(t, "the journals", errorOf(j), api.OK)
		refs, e := court.Join(j)
		same(t, "Join", e, api.OK)
		equal(t, "Join", refs, plainJoin(j))
		for _, thing := range []int{1, 2, 3, 0, -1, math.MinInt, math.MaxInt} {
			story, e := court.Story(j, thing)
			same(t, "Story", e, api.OK)
			want := plainStory(j, thing)
			equal(t, fmt.Sprint("Story of ", thing, " in ", j), story, want)
			lengths["all"]++
			if len(want) > 8 {
				lengths["long"]++
			}
			for i, ref := range want {
				if slices.Contains(want[:i], ref) {
					lengths["with a record twice"]++
					break
				}
			}
		}
	}
	if lengths["long"] < 300 || lengths["with a record twice"] < 50 {
		t.Error("too few stories of one sort:", lengths)
	}
}

// A story through three offices, in which the bag comes back, and a second bag with the same number is received later.
func TestStoryOfBags(t *testing.T) {
	ship := func(to, n int) api.Record {
		return api.Record{Kind: api.RecShip, Room: 1, Thing: 1, Place: to, N: n}
	}
	receive := func(from, n int) api.Record {
		return api.Record{Kind: api.RecReceive, Room: 1, Thing: 1, Fact: api.Fact{Room: 1, Layer: 1}, Place: from, N: n, Person: 1}
	}
	arrive := api.Record{Kind: api.RecArrive, Room: 1, Thing: 1, Text: "/"}
	keep := api.Record{Kind: api.RecKeep, Room: 1, Thing: 1}
	refs := func(l ...int) []api.Ref {
		var list []api.Ref
		for i := 0; i < len(l); i += 2 {
			list = append(list, api.Ref{Journal: l[i], Index: l[i+1]})
		}
		return list
	}
	for _, x := range []struct {
		j    [][]api.Record
		want []api.Ref
	}{
		{[][]api.Record{{arrive, ship(1, 1)}, {receive(0, 1), keep}}, refs(0, 0, 0, 1, 1, 0, 1, 1)},
		{[][]api.Record{{arrive, ship(1, 1), keep}, {receive(0, 2), receive(2, 1), keep}}, refs(0, 0, 0, 1)},
		{[][]api.Record{{arrive, ship(1, 1), receive(1, 1), ship(1, 1)}, {receive(0, 1), ship(0, 1), receive(0, 1), keep}}, refs(0, 0, 0, 1, 1, 0, 1, 1, 0, 2, 0, 3, 1, 2, 1, 3)},
		{[][]api.Record{{arrive, ship(1, 1)}}, refs(0, 0, 0, 1)},
		{[][]api.Record{{keep, arrive, keep, arrive}}, refs(0, 1, 0, 2, 0, 3)},
		{[][]api.Record{{keep}, {arrive}, {arrive}}, refs(1, 0)},
		{[][]api.Record{{keep, ship(1, 1)}, {receive(0, 1)}}, nil},
		{[][]api.Record{{arrive, {Kind: api.RecMoney, Room: 1, Thing: 1, Verdict: api.WhyPay, Person: 1}, {Kind: api.RecMoney, Room: 1, Thing: 1, Verdict: api.WhyDeposit, N: 1}, {Kind: api.RecClaim, Thing: 1, Person: 1, N: 1, Verdict: 1}, {Kind: api.RecLoss, Room: 1, Thing: 1}}}, refs(0, 0, 0, 2, 0, 4)},
		{[][]api.Record{{receive(1, 1), ship(2, 3), arrive, ship(1, 9)}, {receive(0, 9), ship(0, 1)}, {receive(0, 3)}}, refs(0, 2, 0, 3, 1, 0, 1, 1, 0, 0, 0, 1, 2, 0)},
	} {
		story, e := court.Story(numbered(x.j), 1)
		same(t, "Story", e, api.OK)
		equal(t, "Story", story, x.want)
		equal(t, "the oracle", plainStory(x.j, 1), x.want)
	}
}
