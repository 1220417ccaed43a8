package judge_test

import (
	"fmt"
	"math/rand"
	"slices"
	"testing"

	"restante/api"
	"restante/judge"
)

func copyVerdict(v api.Verdict) api.Verdict {
	v.Route.Hops = slices.Clone(v.Route.Hops)
	v.To.Left, v.To.Fell = slices.Clone(v.To.Left), slices.Clone(v.To.Fell)
	v.From.Left, v.From.Fell = slices.Clone(v.From.Left), slices.Clone(v.From.Fell)
	v.Plan = copyPlan(v.Plan)
	return v
}

// spoiltVerdict returns a verdict that is perhaps not right.
func spoiltVerdict(r *rand.Rand, c api.Case, o *oracle, v api.Verdict) api.Verdict {
	v = copyVerdict(v)
	switch r.Intn(14) {
	case 0:
		v.Kind = pick(r, uint8(0), 1, 2, 3, 4, 5, 6, 255)
	case 1:
		v.Who = randomPair(r, o)
	case 2:
		v.Route.Kind = uint8(r.Intn(8))
	case 3:
		v.Route.End = randomPair(r, o)
	case 4:
		v.Route.Hops = append(v.Route.Hops, api.Hop{Kind: 1, From: v.Who, To: randomPair(r, o), Order: 1})
	case 5:
		v.Route.Back = pick(r, extremes()...)
	case 6:
		v.Place = pick(r, append(extremes(), 6, 7)...)
	case 7:
		v.Look = randomLook(r, c.Thing)
	case 8:
		v.To = spoiltCert(r, c, o, v.To)
	case 9:
		v.From = spoiltCert(r, c, o, v.From)
	case 10:
		v.To, v.From = v.From, v.To
	default:
		role := pick(r, 1, 2, judge.Role(kindOf(c, v.Look)))
		if role == 0 {
			role = 1
		}
		if sets := o.sets(role); r.Intn(2) == 0 {
			v.Plan = ladder(r, o, role, pick(r, append(sets, v.Plan.Looks)...))
		} else {
			v.Plan = spoiltPlan(r, c, o, role, v.Plan)
		}
		if len(v.Plan.Looks) > 0 && r.Intn(4) > 0 {
			v.Look = v.Plan.Looks[0]
		}
	}
	return v
}

// kindOf returns the kind of a look, and 0 if the thing does not have it.
func kindOf(c api.Case, l api.Look) uint8 {
	if !slices.Contains(allLooks(c.Thing), l) {
		return 0
	}
	return kindAt(c, l)
}

// E16, E17, P5.7.
func TestVerdictsAgainstTheOracle(t *testing.T) {
	met := map[string]int{}
	try := func(c api.Case, r *rand.Rand) {
		v, e := judge.Decide(c)
		right, e2 := judge.CheckVerdict(c, v)
		if want := caseError(c); want != api.OK {
			same(t, "the case", show(v, e, right, e2), show(api.Verdict{}, want, false, want))
			return
		}
		o := oracleOf(c)
		same(t, "Decide", show(v, e), show(o.verdict(), api.OK))
		same(t, "CheckVerdict of it", show(right, e2), "[true 0]")
		met[fmt.Sprint("the verdict ", v.Kind)]++
		met[fmt.Sprint("the route ", v.Route.Kind)]++
		if v.Kind == api.VerLook {
			met[fmt.Sprint("a look for the role ", judge.Role(kindAt(c, v.Look)))]++
		}
		for range 6 {
			w := spoiltVerdict(r, c, o, v)
			right, e := judge.CheckVerdict(c, w)
			same(t, fmt.Sprintf("CheckVerdict of %+v", w), show(right, e), show(o.approved(w), api.OK))
			if right {
				same(t, "what CheckVerdict accepts", show(w.Kind, w.Who, w.Place, w.Plan.Intrusion), show(v.Kind, v.Who, v.Place, v.Plan.Intrusion))
			}
			met[fmt.Sprint("CheckVerdict ", right, show(v) == show(w))]++
		}
	}
	cases(t, 11, 1000, 10, try)
	planCases(t, 12, 200, try)
	for _, what := range []string{"the verdict 1", "the verdict 2", "the verdict 3", "the verdict 4", "the route 1", "the route 2", "the route 3", "the route 4",
		"a look for the role 1", "a look for the role 2", "CheckVerdict true true", "CheckVerdict true false", "CheckVerdict false false"} {
		same(t, what+" was met", met[what] > 3, true)
	}
}

// E16: the five cases, in their order.
func TestDecide(t *testing.T) {
	ann, bob := pair{Person: 1, Place: 2}, pair{Person: 3, Place: 2}
	// two senders, an addressee
	c := sampleMade()
	v, e := judge.Decide(c)
	same(t, "one addressee", show(v.Kind, v.Who, v.Place, e), show(api.VerDeliver, ann, 2, api.OK))
	// one sender as well
	c.Thing.Layers[0].Pieces = append(c.Thing.Layers[0].Pieces, api.Piece{Kind: api.PieceFromName, Cells: plain("bob lee")})
	c.Made = []api.Look{{Layer: 1}, {Layer: 1, Piece: 1}, {Layer: 2}}
	v, e = judge.Decide(c)
	same(t, "one addressee and one sender", show(v.Kind, v.Who, e), show(api.VerDeliver, ann, api.OK))
	// one sender, two addressees who could be separated
	c.Made, c.Opened, c.May = c.Made[:2], 1, []api.Look{{Layer: 2}}
	v, e = judge.Decide(c)
	same(t, "two addressees and one sender", show(v.Kind, v.Who, v.Place, v.Look, v.Plan, e), show(api.VerReturn, bob, 2, api.Look{}, api.Plan{}, api.OK))
	// no addressee, one sender
	c.Thing.Layers[0].Pieces[0].Cells = plain("nobody")
	v, e = judge.Decide(c)
	same(t, "no addressee and one sender", show(v.Kind, v.Who, e), show(api.VerReturn, bob, api.OK))
	// no addressee, no sender
	c.Thing.Layers[0].Pieces[1].Cells = plain("nobody")
	v, e = judge.Decide(c)
	same(t, "nobody", show(v.Kind, v.Who, e), show(api.VerKeep, pair{}, api.OK))
	// the senders can be separated, the addressees cannot
	c = sample()
	c.Thing.Layers[0].Pieces = append(c.Thing.Layers[0].Pieces, api.Piece{Kind: api.PieceFromName, Cells: plain("ann lee")})
	c.Thing.Layers[1].Pieces[1] = api.Piece{Kind: api.PieceFromPlace}
	c.Made = []api.Look{{Layer: 1}, {Layer: 1, Piece: 1}}
	v, e = judge.Decide(c)
	same(t, "a look for the addressee first", show(v.Kind, v.Look, v.Plan.Intrusion, e), show(api.VerLook, api.Look{Layer: 2}, 21, api.OK))
	c.May = c.May[1:]
	v, e = judge.Decide(c)
	same(t, "a look for the sender", show(v.Kind, v.Look, v.Plan.Intrusion, e), show(api.VerLook, api.Look{Layer: 2, Piece: 1}, 21, api.OK))
	right, e := judge.CheckVerdict(c, v)
	same(t, "CheckVerdict of a look for the sender", show(right, e), "[true 0]")
}

// E16, E17: more than 24 candidates.
func TestMany(t *testing.T) {
	decide := func(what string, c api.Case, want uint8) api.Verdict {
		t.Helper()
		v, e := judge.Decide(c)
		same(t, what, show(v.Kind, e), show(want, api.OK))
		right, e := judge.CheckVerdict(c, v)
		same(t, "CheckVerdict: "+what, show(right, e), "[true 0]")
		for _, kind := range []uint8{api.VerLook, api.VerKeep, api.VerMany} {
			w := v
			w.Kind = kind
			right, e := judge.CheckVerdict(c, w)
			same(t, fmt.Sprint("CheckVerdict of the kind ", kind, ": ", what), show(right, e), show(kind == want, api.OK))
		}
		return v
	}
	c := crowded(24, 24)
	v := decide("24 addressees and senders", c, api.VerLook)
	same(t, "the look", v.Look, api.Look{Layer: 2})
	c.May = nil
	decide("24, and nothing to look at", c, api.VerKeep)
	c = crowded(25, 25)
	decide("25 addressees and senders", c, api.VerMany)
	c = crowded(25, 1)
	v = decide("25 places of one person", c, api.VerDeliver)
	same(t, "the first place", v.Who, pair{Person: 11, Place: 11})
	// few addressees, many senders
	c = crowded(25, 25)
	c.Books.People = append(c.Books.People, api.Entry{Kind: api.EntryName, Person: 11, Name: "zoe"}, api.Entry{Kind: api.EntryName, Person: 12, Name: "zoe"})
	c.Thing.Layers[0].Pieces[0].Cells = plain("zoe")
	v = decide("2 addressees and 25 senders", c, api.VerLook)
	same(t, "the look for 2 addressees", v.Look, api.Look{Layer: 2})
	c.May = nil
	decide("2 addressees and 25 senders, and nothing to look at", c, api.VerMany)
	c.Thing.Layers[0].Pieces[0].Cells = plain("nobody")
	decide("no addressees and 25 senders", c, api.VerMany)
	// many addressees, few senders
	c = crowded(25, 25)
	c.Books.People = append(c.Books.People, api.Entry{Kind: api.EntryName, Person: 11, Name: "zoe"}, api.Entry{Kind: api.EntryName, Person: 12, Name: "zoe"})
	c.Thing.Layers[0].Pieces[0] = api.Piece{Kind: api.PieceFromName, Cells: plain("zoe")}
	c.Thing.Layers[1].Pieces[1].Kind = api.PieceFromPlace
	v = decide("25 addressees and 2 senders", c, api.VerLook)
	same(t, "the look for 2 senders", v.Look, api.Look{Layer: 2, Piece: 1})
	c.May = c.May[:1]
	decide("25 addressees and 2 senders, and nothing to look at for these", c, api.VerMany)
	c.Thing.Layers[0].Pieces[0].Cells = plain("nobody")
	decide("25 addressees and no senders", c, api.VerMany)
}

// E16: routes and places of the day of the verdict, from the sender if one is left.
func TestSending(t *testing.T) {
	c := sampleMade()
	c.Thing.Layers[0].Pieces = append(c.Thing.Layers[0].Pieces, api.Piece{Kind: api.PieceFromName, Cells: plain("bob lee")})
	c.Books.Places = append(c.Books.Places, api.PlaceEvent{Day: 7, Kind: api.PlaceMerge, Place: 3, Other: 1})
	// the first one of several senders is no sender
	c.Books.People = append(c.Books.People, api.Entry{Kind: api.EntryRefuse, Person: 1, Other: 3}, api.Entry{Kind: api.EntryRefuse, Person: 1, Other: 1},
		api.Entry{Day: 6, Kind: api.EntryRedirect, Since: 6, Until: 9, Order: 1, Person: 1, Other: 2, At: 3},
		api.Entry{Day: 9, Kind: api.EntryRedirect, Since: 9, Order: 2, Person: 1, Other: 2, At: 2},
		api.Entry{Day: 10, Kind: api.EntryRedirect, Since: 6, Order: 3, Person: 1, Other: 3, At: 2})
	for _, x := range []struct {
		day   int
		asked bool // the piece that names the sender is shown
		want  string
	}{
		{5, false, "[1 {Person:1 Place:2} {Kind:1 End:{Person:1 Place:2} Hops:[] Back:0} 2 0]"},
		{6, false, "[1 {Person:1 Place:2} {Kind:1 End:{Person:2 Place:3} Hops:[{Kind:1 From:{Person:1 Place:2} To:{Person:2 Place:3} Order:1}] Back:0} 3 0]"},
		{7, false, "[1 {Person:1 Place:2} {Kind:1 End:{Person:2 Place:3} Hops:[{Kind:1 From:{Person:1 Place:2} To:{Person:2 Place:3} Order:1}] Back:0} 1 0]"}, // the place goes on
		{9, false, "[1 {Person:1 Place:2} {Kind:4 End:{Person:2 Place:2} Hops:[{Kind:1 From:{Person:1 Place:2} To:{Person:2 Place:2} Order:2}] Back:0} 0 0]"},
		{5, true, "[1 {Person:1 Place:2} {Kind:2 End:{Person:1 Place:2} Hops:[] Back:0} 0 0]"}, // refused from this sender
	} {
		d := c
		d.Day = x.day
		if x.asked {
			d.Made = []api.Look{{Layer: 1}, {Layer: 1, Piece: 1}, {Layer: 2}}
		}
		v, e := judge.Decide(d)
		same(t, fmt.Sprint("on the day ", x.day, x.asked), show(v.Kind, v.Who, v.Route, v.Place, e), x.want)
	}
	// what goes back comes from nobody: whom the sender refuses does not matter
	c.Books.People = append(c.Books.People[:6:6], api.Entry{Kind: api.EntryRefuse, Person: 3, Other: 3}, api.Entry{Kind: api.EntryRefuse, Person: 3, Other: 1})
	c.Made, c.Opened, c.May = []api.Look{{Layer: 1, Piece: 1}}, 1, nil
	v, e := judge.Decide(c)
	same(t, "the way back", show(v.Kind, v.Who, v.Route.Kind, v.Place, e), "[2 {Person:3 Place:2} 1 2 0]")
	c.Books.People = append(c.Books.People, api.Entry{Kind: api.EntryRefuse, Person: 3})
	v, e = judge.Decide(c)
	same(t, "the way back, refused", show(v.Kind, v.Who, v.Route.Kind, v.Place, e), "[2 {Person:3 Place:2} 2 0 0]")
	// a house in a place that was never founded
	c.Books.People = append(c.Books.People[:6:6], api.Entry{Kind: api.EntryLive, Person: 3, Place: 77}, api.Entry{Kind: api.EntryRedirect, Order: 1, Person: 3, Other: 3})
	v, e = judge.Decide(c)
	same(t, "a house in no place", show(v.Kind, v.Who, v.Route.End, v.Route.Kind, v.Place, e), "[2 {Person:3 Place:2} {Person:3 Place:77} 1 0 0]")
	right, e := judge.CheckVerdict(c, v)
	same(t, "CheckVerdict of a house in no place", show(right, e), "[true 0]")
}

// E16, E17: routes that lead to no house.
func TestRoutesToNoHouse(t *testing.T) {
	order := func(n, person, other, at int) api.Entry {
		return api.Entry{Day: 6, Kind: api.EntryRedirect, Since: 6, Order: n, Person: person, Other: other, At: at}
	}
	for _, x := range []struct {
		what string
		more []api.Entry
		want string
	}{
		{"dead", []api.Entry{{Day: 6, Kind: api.EntryDeath, Person: 1, Since: 6}}, "{Kind:3 End:{Person:1 Place:2} Hops:[] Back:0}"},
		{"homeless", []api.Entry{{Day: 6, Kind: api.EntryName, Person: 4, Name: "zoe"}, order(1, 1, 4, 0)}, "{Kind:5 End:{Person:4 Place:0} Hops:[] Back:0}"},
		{"gone", []api.Entry{order(1, 1, 1, 77)}, "{Kind:4 End:{Person:1 Place:77} Hops:[{Kind:1 From:{Person:1 Place:2} To:{Person:1 Place:77} Order:1}] Back:0}"},
		{"a loop", []api.Entry{order(1, 1, 2, 3), order(2, 2, 3, 2), order(3, 3, 2, 3)},
			"{Kind:6 End:{Person:2 Place:3} Hops:[{Kind:1 From:{Person:1 Place:2} To:{Person:2 Place:3} Order:1} {Kind:1 From:{Person:2 Place:3} To:{Person:3 Place:2} Order:2} {Kind:1 From:{Person:3 Place:2} To:{Person:2 Place:3} Order:3}] Back:1}"},
	} {
		c := sampleMade()
		c.Books.People = append(c.Books.People, x.more...)
		v, e := judge.Decide(c)
		same(t, x.what, show(v.Kind, v.Who, v.Route, v.Place, e), "[1 {Person:1 Place:2} "+x.want+" 0 0]")
		for i, change := range []func(v *api.Verdict){
			func(v *api.Verdict) {},
			func(v *api.Verdict) { v.Place = 2 },
			func(v *api.Verdict) { v.Route.Kind = api.RouteHouse },
			func(v *api.Verdict) { v.Route.Back = 2 },
			func(v *api.Verdict) { v.Route.End = pair{Person: 1, Place: 3} },
			func(v *api.Verdict) { v.Route.Hops = append(v.Route.Hops, api.Hop{Kind: 1, Order: 4}) },
		} {
			w := copyVerdict(v)
			change(&w)
			right, e := judge.CheckVerdict(c, w)
			same(t, fmt.Sprint(x.what, ", changed by ", i), show(right, e), show(i == 0, api.OK))
		}
	}
}

// E17: each of the fields.
func TestCheckVerdict(t *testing.T) {
	deliver, look, keep := sampleMade(), sample(), sample()
	keep.May = nil
	other := api.Plan{Looks: []api.Look{{Layer: 2, Piece: 1}}, Intrusion: 21}
	for i, c := range []api.Case{deliver, look, keep} {
		v, _ := judge.Decide(c)
		for _, x := range []struct {
			what   string
			change func(v *api.Verdict)
			want   [3]bool // for each of the cases
		}{
			{"nothing", func(v *api.Verdict) {}, [3]bool{true, true, true}},
			{"empty slices", func(v *api.Verdict) { v.Route.Hops = append([]api.Hop{}, v.Route.Hops...) }, [3]bool{true, true, true}},
			{"Kind", func(v *api.Verdict) { v.Kind++ }, [3]bool{}},
			{"another Kind", func(v *api.Verdict) { v.Kind-- }, [3]bool{}},
			{"Who", func(v *api.Verdict) { v.Who = pair{Person: 2, Place: 3} }, [3]bool{}},
			{"Route.Kind", func(v *api.Verdict) { v.Route.Kind = 4 }, [3]bool{}},
			{"Route.End", func(v *api.Verdict) { v.Route.End = pair{Person: 2, Place: 3} }, [3]bool{}},
			{"Route.Hops", func(v *api.Verdict) { v.Route.Hops = []api.Hop{{}} }, [3]bool{}},
			{"Route.Back", func(v *api.Verdict) { v.Route.Back = 1 }, [3]bool{}},
			{"Place", func(v *api.Verdict) { v.Place = 3 }, [3]bool{}},
			{"Look", func(v *api.Verdict) { v.Look = api.Look{Layer: 2, Piece: 1} }, [3]bool{}},
			{"To", func(v *api.Verdict) { v.To = api.Cert{} }, [3]bool{}},
			{"From", func(v *api.Verdict) { v.From.Left = v.From.Left[1:] }, [3]bool{}},
			{"Plan.Looks", func(v *api.Verdict) { v.Plan.Looks = []api.Look{{Layer: 2, Piece: 1}} }, [3]bool{}},
			{"Plan.Intrusion", func(v *api.Verdict) { v.Plan.Intrusion++ }, [3]bool{}},
			{"Plan.Rungs", func(v *api.Verdict) { v.Plan.Rungs = make([]api.Rung, 2) }, [3]bool{}},
			{"one empty rung", func(v *api.Verdict) { v.Plan.Rungs = make([]api.Rung, 1) }, [3]bool{}},
			{"Plan and Look", func(v *api.Verdict) { v.Plan, v.Look = other, other.Looks[0] }, [3]bool{}},
			{"no Plan and no Look", func(v *api.Verdict) { v.Plan, v.Look = api.Plan{}, api.Look{} }, [3]bool{true, false, true}},
			{"the candidates of a rung", func(v *api.Verdict) {
				for i := range v.Plan.Rungs {
					v.Plan.Rungs[i].A, v.Plan.Rungs[i].B = v.Plan.Rungs[i].B, v.Plan.Rungs[i].A
				}
			}, [3]bool{true, true, true}},
		} {
			w := copyVerdict(v)
			x.change(&w)
			right, e := judge.CheckVerdict(c, w)
			same(t, fmt.Sprint("the case ", i, " with ", x.what), show(right, e), show(x.want[i], api.OK))
		}
	}
}

// E18, P5.11.
func TestDoubtAgainstTheOracle(t *testing.T) {
	met := map[string]int{}
	cases(t, 13, 1500, 10, func(c api.Case, r *rand.Rand) {
		v, e := judge.Decide(c)
		if e == api.OK && (v.Kind == 1 || v.Kind == 2) {
			l, e := judge.Doubt(c, v, c.Books, c.Day)
			same(t, "Doubt at once", show(l, e), "[[] 0]")
		}
		v.Kind = pick(r, v.Kind, 1, 1, 2, 2, 0, 6, 255)
		later := c
		later.Books.People = append(slices.Clone(c.Books.People), api.Entry{Day: 40, Kind: api.EntryName, Person: 1 + r.Intn(6), Name: randomName(r)}, api.Entry{Day: 41, Kind: api.EntryLive, Person: 1, Place: 1 + r.Intn(6)})
		later.Day = c.Day + pick(r, 0, 1, 5, 30, 60)
		if r.Intn(8) == 0 {
			later.Books = spoiltBooks(r, copyCase(later).Books)
		}
		if r.Intn(8) == 0 {
			later.Day = pick(r, append(extremes(), c.Day-1)...)
		}
		l, e := judge.Doubt(c, v, later.Books, later.Day)
		want := doubtError(c, v, later)
		met[fmt.Sprint("error ", want)]++
		if want != api.OK {
			same(t, "Doubt", show(l, e), show([]pair{}, want))
			return
		}
		others := slices.DeleteFunc(oracleOf(later).left(int(v.Kind)), func(who pair) bool { return who.Person == v.Who.Person })
		same(t, "Doubt", show(l, e), show(others, api.OK))
		met[fmt.Sprint("doubt ", len(others) > 0)]++
	})
	for _, what := range []string{"error 0", "error 1", "error 7", "doubt true", "doubt false"} {
		same(t, what+" was met", met[what] > 20, true)
	}
}

func doubtError(c api.Case, v api.Verdict, later api.Case) api.Errno {
	if e := caseError(c); e != api.OK {
		return e
	}
	if later.Day < c.Day {
		return api.ErrTime
	}
	if v.Kind != 1 && v.Kind != 2 {
		return api.ErrArg
	}
	return caseError(later)
}

// E18.
func TestDoubt(t *testing.T) {
	c := sampleMade()
	v, _ := judge.Decide(c)
	later := judge.Known(c.Books, c.Day)
	later.People = append(later.People, api.Entry{Day: 12, Kind: api.EntryName, Person: 3, Name: "ann lee"}, api.Entry{Day: 13, Kind: api.EntryLive, Person: 1, Place: 1},
		api.Entry{Day: 14, Kind: api.EntryLive, Person: 2, Since: 5, Place: 2})
	spoilt := judge.Known(later, 100)
	spoilt.People[0].Name = ""
	keep := v
	keep.Kind = api.VerKeep
	for _, x := range []struct {
		what  string
		v     api.Verdict
		books api.Books
		day   int
		want  string
	}{
		{"the same books", v, c.Books, 9, "[[] 0]"},
		{"before the entry", v, later, 11, "[[] 0]"},
		{"another person of the name", v, later, 12, "[[{Person:3 Place:2}] 0]"},
		{"two other persons of the name", v, later, 14, "[[{Person:2 Place:2} {Person:3 Place:2}] 0]"},
		{"the last day", v, later, 100000, "[[{Person:2 Place:2} {Person:3 Place:2}] 0]"},
		{"a day beyond the last one", v, later, 100001, "[[] 1]"},
		{"an earlier day", v, later, 8, "[[] 7]"},
		{"an earlier day and no such verdict", keep, later, 8, "[[] 7]"},
		{"no such verdict", keep, spoilt, 12, "[[] 1]"},
		{"no such verdict, of no kind", api.Verdict{}, later, 12, "[[] 1]"},
		{"books that are not valid", v, spoilt, 12, "[[] 4]"},
		{"a verdict on nobody", api.Verdict{Kind: api.VerDeliver}, later, 12, "[[{Person:1 Place:2} {Person:3 Place:2}] 0]"},
		{"a return", api.Verdict{Kind: api.VerReturn, Who: pair{Person: 2}}, later, 9, "[[{Person:1 Place:2} {Person:3 Place:2}] 0]"},
	} {
		l, e := judge.Doubt(c, x.v, x.books, x.day)
		same(t, x.what, show(l, e), x.want)
	}
	c.Opened = 1
	l, e := judge.Doubt(c, keep, later, 0)
	same(t, "a case that is not valid", show(l, e), "[[] 1]")
}
