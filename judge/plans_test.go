package judge_test

import (
	"fmt"
	"math/rand"
	"slices"
	"strconv"
	"testing"

	"restante/api"
	"restante/judge"
)

// E11, P5.5.
func TestCommonAgainstTheOracle(t *testing.T) {
	met := map[string]int{}
	cases(t, 7, 1200, 10, func(c api.Case, r *rand.Rand) {
		o := oracleOf(c)
		for range 4 {
			x, y, kind := randomPair(r, o), randomPair(r, o), uint8(1+r.Intn(6))
			if r.Intn(8) == 0 {
				kind = pick(r, uint8(0), 7, 8, 255)
			}
			common, is, e := judge.Common(c, kind, x, y)
			apart, e2 := judge.Apart(c, kind, x, y)
			if want := kindError(c, kind); want != api.OK {
				same(t, "the kind or the case", show(common, is, e, apart, e2), show(api.Reading{}, false, want, false, want))
				_, e := judge.Names(c, kind, x)
				same(t, "Names of the kind or the case", e, want)
				continue
			}
			wantCommon, wantIs := o.common(kind, x, y)
			same(t, fmt.Sprint("Common of ", kind, x, y), show(common, is, e), show(wantCommon, wantIs, api.OK))
			same(t, fmt.Sprint("Apart of ", kind, x, y), show(apart, e2), show(!wantIs, api.OK))
			met[fmt.Sprint("apart ", apart, common.Cost > 0)]++
			if !apart && slices.Contains(o.candidates(), x) && slices.Contains(o.candidates(), y) {
				wantBothFit(t, c, kind, x, y, common.Text)
			}
		}
	})
	for _, what := range []string{"apart true false", "apart false false", "apart false true"} {
		same(t, what+" was met", met[what] > 50, true)
	}
}

// wantBothFit requires that two candidates are left after a look at a text that both of them have in common.
func wantBothFit(t *testing.T, c api.Case, kind uint8, x, y pair, text string) {
	t.Helper()
	c.Thing.Layers = []api.Layer{{Pieces: []api.Piece{{Kind: kind, Cells: plain(text)}}}}
	c.Made, c.Opened, c.May = []api.Look{{Layer: 1}}, 1, nil
	left, e := judge.Left(c, judge.Role(kind))
	same(t, "Left after a look at "+text, e, api.OK)
	same(t, fmt.Sprint(x, " and ", y, " are left after a look at ", text), slices.Contains(left, x) && slices.Contains(left, y), true)
}

// E11: the least sum over all names, and of several strings the first one.
func TestCommon(t *testing.T) {
	c := sample()
	c.Books.Spells = []api.Spell{{From: "ann", To: "an", Cost: 2}, {From: "bob", To: "an", Cost: 3}, {From: "ee", To: "ea", Cost: 1}, {From: "fo", To: "to", Cost: 450}, {From: "rd", To: "n", Cost: 451}}
	a, b, d := pair{Person: 1, Place: 2}, pair{Person: 2, Place: 3}, pair{Person: 3, Place: 2}
	for _, x := range []struct {
		kind uint8
		x, y pair
		want string
	}{
		{1, a, b, "[{Text:ann lee Cost:0} true 0]"},
		{4, a, d, "[{Text:an lee Cost:5} true 0]"},
		{1, d, a, "[{Text:an lee Cost:5} true 0]"},
		{2, a, b, "[{Text:ayton Cost:901} true 0]"},
		{3, a, b, "[{Text:north Cost:0} true 0]"},
		{3, a, pair{Person: 1, Place: 1}, "[{Text: Cost:0} false 0]"},
		{3, pair{Place: 1}, pair{Place: 1}, "[{Text: Cost:0} false 0]"}, // without names, apart from itself
		{1, a, pair{Person: 9, Place: 2}, "[{Text: Cost:0} false 0]"},
		{1, a, pair{Person: 1, Place: 7}, "[{Text:ann lee Cost:0} true 0]"},
	} {
		common, is, e := judge.Common(c, x.kind, x.x, x.y)
		same(t, fmt.Sprint("Common ", x.kind, x.x, x.y), show(common, is, e), x.want)
		apart, e := judge.Apart(c, x.kind, x.x, x.y)
		same(t, fmt.Sprint("Apart ", x.kind, x.x, x.y), show(apart, e), show(!is, api.OK))
	}
	c.Books.Spells = []api.Spell{{From: "a", To: "b"}, {From: "bob", To: "ann"}}
	c.Books.People[1].Name, c.Books.People[2].Name = "ann", "bnn"
	common, is, e := judge.Common(c, 1, pair{Person: 2}, pair{Person: 3})
	same(t, "Common by a rule", show(common, is, e), "[{Text:bnn Cost:0} true 0]")
	common, is, e = judge.Common(c, 1, pair{Person: 2}, pair{Person: 2})
	same(t, "Common of two strings of one cost", show(common, is, e), "[{Text:ann Cost:0} true 0]")
}

// neighbours is books of some persons each two of whom differ in their names, the names of their places, or those of their regions.
func neighbours(r *rand.Rand, persons int) api.Books {
	found := func(place, other int, name string) api.PlaceEvent {
		return api.PlaceEvent{Kind: api.PlaceFound, Place: place, Other: other, Name: name}
	}
	b := api.Books{Places: []api.PlaceEvent{found(1, 0, "north"), found(2, 0, "b-ay"), found(3, 1, "ay"), found(4, 2, "ay"), found(5, 1, "by"), found(6, 2, "by")}}
	for i, n := range r.Perm(8)[:persons] {
		b.People = append(b.People, api.Entry{Kind: api.EntryName, Person: i + 1, Name: []string{"ann", "bo"}[n%2]},
			api.Entry{Kind: api.EntryLive, Person: i + 1, Place: 3 + n/2})
	}
	return b
}

// planCase returns a valid case with many looks that may be made.
func planCase(r *rand.Rand) api.Case {
	for {
		c := randomCase(r)
		c.Books.People = randomEntries(r, c.Books.Spells, 2+r.Intn(5), 3)
		if r.Intn(2) == 0 {
			c.Books = neighbours(r, 2+r.Intn(5))
		}
		c.Thing = api.Thing{Id: 1, Day: c.Thing.Day, Layers: make([]api.Layer, 3)}
		to, from := someHome(r, c.Books), someHome(r, c.Books)
		for range r.Intn(11) {
			layer := &c.Thing.Layers[r.Intn(3)]
			layer.Pieces = append(layer.Pieces, randomPiece(r, c.Books, to, from))
			if r.Intn(3) > 0 { // so that one role has more of them
				layer.Pieces[len(layer.Pieces)-1].Kind = uint8(1 + r.Intn(3))
			}
		}
		c.Made, c.May, c.Opened = nil, nil, 0
		for _, l := range allLooks(c.Thing) {
			switch {
			case r.Intn(9) == 0:
				c.Made = append(c.Made, l)
			case r.Intn(8) > 0:
				c.May = append(c.May, l)
			}
		}
		c.Opened = depthOf(c.Made)
		if caseError(c) == api.OK {
			return c
		}
	}
}

// planCases calls a test with many cases with many looks, and shows the case if the test fails.
func planCases(t *testing.T, seed int64, n int, try func(c api.Case, r *rand.Rand)) {
	t.Helper()
	r := rand.New(rand.NewSource(seed))
	for range n {
		c := planCase(r)
		func() {
			defer func() {
				if t.Failed() {
					t.Logf("the case %+v", c)
				}
			}()
			try(c, r)
		}()
	}
}

// E12, E13.
func TestSeparatesAgainstTheOracle(t *testing.T) {
	met := map[string]int{}
	r := rand.New(rand.NewSource(8))
	for range 1200 {
		c := planCase(r)
		if r.Intn(10) == 0 {
			c = spoiltCase(r, c)
		}
		o := oracleOf(c)
		for _, role := range someRoles(r) {
			looks, l := randomSet(r, c.Thing), randomLook(r, c.Thing)
			if r.Intn(6) == 0 {
				looks = append(looks, randomLook(r, c.Thing))
			}
			x, y, ok, e := judge.Separates(c, role, looks)
			n, e2 := judge.Worth(c, role, l)
			if want := roleError(c, role); want != api.OK {
				same(t, "the role or the case", show(x, y, ok, e, n, e2), show(pair{}, pair{}, false, want, 0, want))
				continue
			}
			if isSetOf(c.Thing, looks) {
				wantX, wantY, wantOk := o.separates(role, looks)
				same(t, fmt.Sprint("Separates for ", role, looks), show(x, y, ok, e), show(wantX, wantY, wantOk, api.OK))
				met[fmt.Sprint("Separates ", ok)]++
			} else {
				same(t, fmt.Sprint("Separates for ", role, looks), show(x, y, ok, e), show(pair{}, pair{}, false, api.ErrArg))
				met["no set"]++
			}
			if !slices.Contains(allLooks(c.Thing), l) {
				same(t, fmt.Sprint("Worth of ", l), show(n, e2), show(0, api.ErrArg))
				continue
			}
			same(t, fmt.Sprint("Worth for ", role, l), show(n, e2), show(worthOf(o, role, l), api.OK))
			met[fmt.Sprint("Worth ", min(n, 2))]++
		}
	}
	for _, what := range []string{"Separates true", "Separates false", "no set", "Worth 0", "Worth 1", "Worth 2"} {
		same(t, what+" was met", met[what] > 40, true)
	}
}

func worthOf(o *oracle, role int, l api.Look) int {
	n := 0
	left := o.left(role)
	for i, x := range left {
		for _, y := range left[:i] {
			if x.Person != y.Person && o.told(role, []api.Look{l}, x, y) {
				n++
			}
		}
	}
	return n
}

// E12, E13: the order of the errors, and looks that are made already or not allowed.
func TestSeparatesAndWorth(t *testing.T) {
	c := sample()
	c.May = nil
	x, y, ok, e := judge.Separates(c, api.RoleTo, []api.Look{{Layer: 2}})
	same(t, "Separates by a look that is not allowed", show(x, y, ok, e), show(pair{}, pair{}, true, api.OK))
	x, y, ok, e = judge.Separates(c, api.RoleTo, []api.Look{{Layer: 1}, {Layer: 2, Piece: 1}})
	same(t, "Separates by a look that is made", show(x, y, ok, e), show(pair{Person: 1, Place: 2}, pair{Person: 2, Place: 3}, false, api.OK))
	x, y, ok, e = judge.Separates(c, api.RoleFrom, judge.Looks(c.Thing))
	same(t, "Separates by looks of the other role", show(x, y, ok, e), show(pair{Person: 1, Place: 2}, pair{Person: 2, Place: 3}, false, api.OK))
	c.Thing.Layers[1].Pieces[0].Kind = api.PieceFromPlace
	x, y, ok, e = judge.Separates(c, api.RoleFrom, judge.Looks(c.Thing))
	same(t, "Separates with the first two that are not apart", show(x, y, ok, e), show(pair{Person: 1, Place: 2}, pair{Person: 3, Place: 2}, false, api.OK))
	for l, want := range map[api.Look]string{{Layer: 1}: "[0 0]", {Layer: 2}: "[2 0]", {Layer: 2, Piece: 1}: "[0 0]", {Layer: 3}: "[0 1]", {Layer: 1, Piece: 1}: "[0 1]", {}: "[0 1]"} {
		n, e := judge.Worth(c, api.RoleFrom, l)
		same(t, fmt.Sprint("Worth of ", l), show(n, e), want)
	}
}

// crowded returns the sample with so many more candidates left for either role, of so many persons, all with the same name.
func crowded(more, persons int) api.Case {
	c := sample()
	c.Books.People = c.Books.People[:3:3]
	for i := range persons {
		c.Books.People = append(c.Books.People, api.Entry{Kind: api.EntryName, Person: 11 + i, Name: "ann lee"})
	}
	for i := range more {
		c.Books.Places = append(c.Books.Places, api.PlaceEvent{Kind: api.PlaceFound, Place: 11 + i, Other: 1, Name: "x" + strconv.Itoa(i)})
		c.Books.People = append(c.Books.People, api.Entry{Kind: api.EntryLive, Person: 11 + i%persons, Place: 11 + i})
	}
	return c
}

// E12, E13, E14, E15, E16: 24 candidates, and one more.
func TestLimitOfCandidates(t *testing.T) {
	for _, role := range []int{api.RoleTo, api.RoleFrom} {
		for n, want := range map[int]api.Errno{23: api.OK, 24: api.OK, 25: api.ErrLimit} {
			c := crowded(n, 5)
			if role == api.RoleFrom {
				for i := range c.Thing.Layers {
					for j := range c.Thing.Layers[i].Pieces {
						c.Thing.Layers[i].Pieces[j].Kind += 3
					}
				}
			}
			_, _, ok, e := judge.Separates(c, role, []api.Look{{Layer: 2}})
			same(t, fmt.Sprint("Separates of ", n), show(ok, e), show(want == api.OK, want))
			_, _, _, e = judge.Separates(c, role, []api.Look{{Layer: 4}})
			same(t, fmt.Sprint("Separates of ", n, " by no look"), e, api.ErrArg)
			worth, e := judge.Worth(c, role, api.Look{Layer: 2})
			same(t, fmt.Sprint("Worth of ", n), show(worth > 0, e), show(want == api.OK, want))
			_, e = judge.Worth(c, role, api.Look{Layer: 4})
			same(t, fmt.Sprint("Worth of ", n, " by no look"), e, api.ErrArg)
			p, is, e := judge.Least(c, role)
			same(t, fmt.Sprint("Least of ", n), show(is, e), show(want == api.OK, want))
			right, e := judge.CheckPlan(c, role, p)
			same(t, fmt.Sprint("CheckPlan of ", n), show(right, e), show(want == api.OK, want))
			left, e := judge.Left(c, role)
			same(t, fmt.Sprint("Left of ", n), show(len(left), e), show(n, api.OK))
		}
	}
	c := crowded(25, 5)
	n, e := judge.Worth(c, api.RoleFrom, api.Look{Layer: 2})
	same(t, "Worth of a look of the other role", show(n, e), show(0, api.ErrLimit))
	one := crowded(25, 1)
	_, is, e := judge.Least(one, api.RoleTo)
	same(t, "Least of one person with many places", show(is, e), show(false, api.ErrLimit))
}

// ladder returns a set of usable looks as a plan, with a rung for each set of lesser intrusion that does not separate, which has any two candidates.
func ladder(r *rand.Rand, o *oracle, role int, looks []api.Look) api.Plan {
	p := api.Plan{Looks: looks, Intrusion: o.intrusion(looks)}
	for _, s := range o.sets(role) {
		if pairs := untold(o, role, s); len(pairs) > 0 && (o.intrusion(s) < p.Intrusion || r.Intn(9) == 0) {
			two := pick(r, pairs...)
			p.Rungs = append(p.Rungs, api.Rung{Looks: s, A: two[0], B: two[1]})
		}
	}
	return p
}

// untold returns all ordered pairs of candidates left with different persons that looks do not tell apart.
func untold(o *oracle, role int, looks []api.Look) [][2]pair {
	var list [][2]pair
	for _, x := range o.left(role) {
		for _, y := range o.left(role) {
			if x.Person != y.Person && !o.told(role, looks, x, y) {
				list = append(list, [2]pair{x, y})
			}
		}
	}
	return list
}

func copyPlan(p api.Plan) api.Plan {
	p.Looks, p.Rungs = slices.Clone(p.Looks), slices.Clone(p.Rungs)
	for i := range p.Rungs {
		p.Rungs[i].Looks = slices.Clone(p.Rungs[i].Looks)
	}
	return p
}

// spoiltPlan returns a plan that is perhaps not right.
func spoiltPlan(r *rand.Rand, c api.Case, o *oracle, role int, p api.Plan) api.Plan {
	p = copyPlan(p)
	for range 1 + r.Intn(2) {
		rung := anyOf(r, p.Rungs)
		switch r.Intn(13) {
		case 0:
			p.Intrusion += pick(r, -1, 1)
		case 1:
			p.Intrusion = pick(r, extremes()...)
		case 2:
			p.Looks = pick(r, o.sets(role)...)
			p.Intrusion = o.intrusion(p.Looks)
		case 3:
			*anyOf(r, p.Looks) = randomLook(r, c.Thing)
		case 4:
			p.Looks = append(p.Looks, randomLook(r, c.Thing))
		case 5:
			i := r.Intn(len(p.Rungs) + 1)
			p.Rungs = append(p.Rungs[:i:i], p.Rungs[min(i+1, len(p.Rungs)):]...)
		case 6:
			rung.A = randomPair(r, o)
		case 7:
			rung.A, rung.B = rung.B, rung.A
		case 8:
			if !isSetOf(c.Thing, rung.Looks) {
				break
			}
			if pairs := untold(o, role, rung.Looks); len(pairs) > 0 {
				two := pick(r, pairs...)
				rung.A, rung.B = two[0], two[1]
			}
		case 9:
			rung.Looks = append(rung.Looks, randomLook(r, c.Thing))
		case 10:
			rung.Looks = rung.Looks[:r.Intn(len(rung.Looks)+1)]
		case 11:
			p.Rungs = append(p.Rungs, *rung)
		case 12:
			slices.Reverse(p.Rungs)
		}
	}
	return p
}

// E14, E15, P5.6.
func TestPlansAgainstTheOracle(t *testing.T) {
	met := map[string]int{}
	planCases(t, 9, 700, func(c api.Case, r *rand.Rand) {
		o := oracleOf(c)
		for role := 1; role <= 2; role++ {
			p, is, e := judge.Least(c, role)
			want, wantIs := o.least(role)
			same(t, fmt.Sprint("Least for ", role), show(p, is, e), show(want, wantIs, api.OK))
			right, e := judge.CheckPlan(c, role, p)
			same(t, "CheckPlan of it", show(right, e), show(is, api.OK))
			met[fmt.Sprint("a plan ", is, " of ", len(p.Looks), " looks")]++
			met[fmt.Sprint("a plan with ", min(len(p.Rungs), 8), " rungs")]++
			for range 5 {
				q := p
				if r.Intn(3) > 0 {
					q = ladder(r, o, role, pick(r, append(o.sets(role), p.Looks, p.Looks, p.Looks)...))
				}
				if r.Intn(3) > 0 {
					q = spoiltPlan(r, c, o, role, q)
				}
				right, e := judge.CheckPlan(c, role, q)
				same(t, fmt.Sprintf("CheckPlan for %d of %+v", role, q), show(right, e), show(o.justified(role, q), api.OK))
				if right {
					same(t, "the intrusion of what CheckPlan accepts", q.Intrusion, p.Intrusion)
				}
				met[fmt.Sprint("CheckPlan ", right, show(q) == show(p))]++
			}
		}
	})
	for _, what := range []string{"a plan true of 0 looks", "a plan true of 1 looks", "a plan true of 2 looks", "a plan true of 3 looks", "a plan false of 0 looks", "a plan with 1 rungs", "a plan with 8 rungs", "CheckPlan true true", "CheckPlan true false", "CheckPlan false false"} {
		same(t, what+" was met", met[what] > 5, true)
	}
}

// E14: the errors.
func TestErrorsOfPlans(t *testing.T) {
	cases(t, 10, 600, 3, func(c api.Case, r *rand.Rand) {
		for _, role := range someRoles(r) {
			if want := roleError(c, role); want != api.OK {
				p, is, e := judge.Least(c, role)
				right, e2 := judge.CheckPlan(c, role, p)
				same(t, "the role or the case", show(p, is, e, right, e2), show(api.Plan{}, false, want, false, want))
			}
		}
	})
}

// persons returns a case without looks that were made, with one person for each text of a name and a place.
func personsAt(homes ...[2]string) api.Case {
	c := api.Case{Weights: [3]int{10, 100, 1000}}
	for i, home := range homes {
		c.Books.Places = append(c.Books.Places, api.PlaceEvent{Kind: api.PlaceFound, Place: i + 1, Name: home[1]})
		c.Books.People = append(c.Books.People, api.Entry{Kind: api.EntryName, Person: i + 1, Name: home[0]})
		c.Books.People = append(c.Books.People, api.Entry{Kind: api.EntryLive, Person: i + 1, Place: i + 1})
	}
	c.Thing = api.Thing{Id: 1, Layers: []api.Layer{
		{Pieces: []api.Piece{{Kind: api.PieceToName}, {Kind: api.PieceToName}}},
		{Pieces: []api.Piece{{Kind: api.PieceToPlace}, {Kind: api.PieceToName}, {Kind: api.PieceToPlace}}},
		{Pieces: []api.Piece{{Kind: api.PieceToPlace}}},
	}}
	c.May = judge.Looks(c.Thing)
	return c
}

// E14: of several least plans the first one, and the rungs in their order.
func TestLeast(t *testing.T) {
	c := personsAt([2]string{"a", "x"}, [2]string{"a", "y"}, [2]string{"b", "y"})
	p, is, e := judge.Least(c, api.RoleTo)
	// by a name and a place; without another name of the layer 2, which is not reached from nothing: the first two have one name
	same(t, "the plan", show(p.Looks, p.Intrusion, is, e), "[[{Layer:1 Piece:0} {Layer:2 Piece:0}] 112 true 0]")
	var sets []string
	for _, x := range p.Rungs {
		sets = append(sets, show(x))
	}
	same(t, "the rungs", show(sets), show([]string{
		"[{Looks:[] A:{Person:1 Place:1} B:{Person:2 Place:2}}]",
		"[{Looks:[{Layer:2 Piece:0}] A:{Person:2 Place:2} B:{Person:3 Place:3}}]",
		"[{Looks:[{Layer:2 Piece:2}] A:{Person:2 Place:2} B:{Person:3 Place:3}}]",
	}))
	// the same plan with a layer that is open already, where the looks alone count
	c.Thing.Layers[2].Pieces[0] = api.Piece{Kind: api.PieceFromName, Cells: plain("z")}
	c.Made, c.May, c.Opened = []api.Look{{Layer: 3}}, c.May[:5], 3
	p, is, e = judge.Least(c, api.RoleTo)
	same(t, "the plan in open layers", show(p.Looks, p.Intrusion, len(p.Rungs), is, e), "[[{Layer:1 Piece:0} {Layer:2 Piece:0}] 2 3 true 0]")
	c.May = c.May[1:2]
	p, is, e = judge.Least(c, api.RoleTo)
	same(t, "no plan", show(p, is, e), show(api.Plan{}, false, api.OK))
	p, is, e = judge.Least(c, api.RoleFrom)
	same(t, "the plan if nobody is left", show(p, is, e), show(api.Plan{}, true, api.OK))
	one := personsAt([2]string{"a", "x"})
	one.Books.People = append(one.Books.People, api.Entry{Kind: api.EntryLive, Person: 1, Place: 2})
	p, is, e = judge.Least(one, api.RoleTo)
	same(t, "the plan for one person", show(p, is, e), show(api.Plan{}, true, api.OK))
}

// E15: each of the conditions.
func TestCheckPlan(t *testing.T) {
	c := personsAt([2]string{"a", "x"}, [2]string{"a", "y"}, [2]string{"b", "y"})
	least, _, _ := judge.Least(c, api.RoleTo)
	look := func(layer, piece int) api.Look { return api.Look{Layer: layer, Piece: piece} }
	a, b := pair{Person: 1, Place: 1}, pair{Person: 2, Place: 2}
	for _, x := range []struct {
		what   string
		change func(p *api.Plan)
		want   bool
	}{
		{"the least plan", func(p *api.Plan) {}, true},
		{"another one of its intrusion", func(p *api.Plan) { p.Looks = []api.Look{look(1, 1), look(2, 2)} }, true},
		{"one of a greater intrusion", func(p *api.Plan) { p.Looks, p.Intrusion = []api.Look{look(1, 0), look(3, 0)}, 1112 }, false},
		{"a part of it", func(p *api.Plan) { p.Looks, p.Intrusion = []api.Look{look(2, 0)}, 111 }, false},
		{"looks out of order", func(p *api.Plan) { slices.Reverse(p.Looks) }, false},
		{"a look twice", func(p *api.Plan) { p.Looks, p.Intrusion = append(p.Looks, look(2, 0)), 113 }, false},
		{"a look that is nowhere", func(p *api.Plan) { p.Looks, p.Intrusion = append(p.Looks, look(2, 7)), 113 }, false},
		{"less intrusion", func(p *api.Plan) { p.Intrusion-- }, false},
		{"more intrusion", func(p *api.Plan) { p.Intrusion++ }, false},
		{"no rungs", func(p *api.Plan) { p.Rungs = nil }, false},
		{"no rung of the empty set", func(p *api.Plan) { p.Rungs = p.Rungs[1:] }, false},
		{"the rung of the empty set alone", func(p *api.Plan) { p.Rungs = p.Rungs[:1] }, false},
		{"no last rung", func(p *api.Plan) { p.Rungs = p.Rungs[:2] }, false},
		{"one more rung", func(p *api.Plan) {
			p.Rungs = append(p.Rungs, api.Rung{Looks: []api.Look{look(3, 0)}, A: b, B: pair{Person: 3, Place: 3}})
		}, true},
		{"one more rung that separates", func(p *api.Plan) { p.Rungs = append(p.Rungs, api.Rung{Looks: []api.Look{look(3, 0)}, A: a, B: b}) }, false},
		{"rungs out of order", func(p *api.Plan) { slices.Reverse(p.Rungs) }, false},
		{"a rung twice", func(p *api.Plan) { p.Rungs = append(p.Rungs, p.Rungs[2]) }, false},
		{"a rung of no set", func(p *api.Plan) { p.Rungs[1].Looks = []api.Look{look(2, 0), look(2, 0)} }, false},
		{"a rung with the candidates the other way round", func(p *api.Plan) { p.Rungs[0].A, p.Rungs[0].B = b, a }, true},
		{"a rung with one person", func(p *api.Plan) { p.Rungs[0].B = a }, false},
		{"a rung with a pair that is not left", func(p *api.Plan) { p.Rungs[0].B = pair{Person: 3, Place: 2} }, false},
		{"a rung with other candidates, whose steps have no rungs", func(p *api.Plan) { p.Rungs[0].A = pair{Person: 3, Place: 3} }, false},
	} {
		p := copyPlan(least)
		x.change(&p)
		right, e := judge.CheckPlan(c, api.RoleTo, p)
		same(t, x.what, show(right, e), show(x.want, api.OK))
	}
	two := personsAt([2]string{"a", "x"}, [2]string{"a", "y"}, [2]string{"b", "y"})
	two.Books.Places = append(two.Books.Places, api.PlaceEvent{Kind: api.PlaceFound, Place: 4, Name: "z"})
	two.Books.People = append(two.Books.People, api.Entry{Kind: api.EntryLive, Person: 1, Place: 4})
	p, _, _ := judge.Least(two, api.RoleTo)
	for _, x := range []pair{b, {Person: 1, Place: 4}} {
		p.Rungs[0].A, p.Rungs[0].B = a, x
		right, e := judge.CheckPlan(two, api.RoleTo, p)
		same(t, fmt.Sprint("a rung with ", a, x), show(right, e), show(x == b, api.OK))
	}
	c.May = c.May[1:]
	right, e := judge.CheckPlan(c, api.RoleTo, least)
	same(t, "a look that is not allowed", show(right, e), "[false 0]")
	right, e = judge.CheckPlan(c, api.RoleFrom, least)
	same(t, "looks of the other role", show(right, e), "[false 0]")
	one := personsAt([2]string{"a", "x"})
	right, e = judge.CheckPlan(one, api.RoleTo, api.Plan{})
	same(t, "the empty plan for one person", show(right, e), "[true 0]")
	right, e = judge.CheckPlan(one, api.RoleTo, api.Plan{Looks: []api.Look{look(1, 0)}, Intrusion: 11})
	same(t, "a plan with a look for one person", show(right, e), "[false 0]")
	right, e = judge.CheckPlan(c, api.RoleTo, api.Plan{})
	same(t, "the empty plan for several persons", show(right, e), "[false 0]")
}
