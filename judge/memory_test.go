package judge_test

import (
	"fmt"
	"math/rand"
	"reflect"
	"slices"
	"testing"

	"restante/api"
	"restante/judge"
)

// area is the memory behind a slice.
type area struct{ from, to uintptr }

// areasOf returns the memory behind all slices in a value, up to their capacities.
func areasOf(v reflect.Value) []area {
	var list []area
	switch v.Kind() {
	case reflect.Slice:
		if v.Cap() == 0 || v.Type().Elem().Size() == 0 {
			return nil
		}
		from := v.Pointer()
		list = append(list, area{from, from + uintptr(v.Cap())*v.Type().Elem().Size()})
		for i := range v.Len() {
			list = append(list, areasOf(v.Index(i))...)
		}
	case reflect.Struct:
		for i := range v.NumField() {
			list = append(list, areasOf(v.Field(i))...)
		}
	case reflect.Interface:
		return areasOf(v.Elem())
	}
	return list
}

// whole returns a text of a value in which all slices reach as far as their memory does.
func whole(v reflect.Value) string {
	text := ""
	switch v.Kind() {
	case reflect.Slice:
		for i := range v.Cap() {
			text += whole(v.Slice(0, v.Cap()).Index(i)) + ","
		}
	case reflect.Struct:
		for i := range v.NumField() {
			text += whole(v.Field(i)) + ";"
		}
	case reflect.Interface:
		return whole(v.Elem())
	default:
		return fmt.Sprint(v)
	}
	return "{" + text + "}"
}

// noneShared fails if any two slices in the results share memory with each other or with the arguments.
func noneShared(t *testing.T, what string, results []any, given []area) {
	t.Helper()
	got := areasOf(reflect.ValueOf(results))
	for i, a := range got {
		for _, b := range slices.Concat(given, got[:i]) {
			if a.from < b.to && b.from < a.to {
				t.Fatalf("%s: slices share memory", what)
			}
		}
	}
}

// roomy returns a case whose slices have memory behind their lengths.
func roomy(c api.Case) api.Case {
	c = copyCase(c)
	c.Made, c.May = slices.Grow(c.Made, 3), slices.Grow(c.May, 3)
	c.Books.Places, c.Books.Spells, c.Books.People = slices.Grow(c.Books.Places, 3), slices.Grow(c.Books.Spells, 3), slices.Grow(c.Books.People, 3)
	return c
}

// R3: results are new memory, and arguments are not changed, also behind their lengths.
func TestMemory(t *testing.T) {
	calls := 0
	try := func(c api.Case, r *rand.Rand) {
		c = roomy(c)
		v, _ := judge.Decide(c)
		p, _, _ := judge.Least(c, 1)
		who := pair{Person: 1, Place: 2}
		arguments := []any{c, v, p}
		// Only memory that stays in use until the end may be held against that of results.
		before, given := whole(reflect.ValueOf(arguments)), areasOf(reflect.ValueOf(c))
		check := func(what string, results ...any) {
			t.Helper()
			noneShared(t, what, results, given)
			calls++
		}
		check("Known", judge.Known(c.Books, c.Day), judge.Known(c.Books, 0))
		check("Looks", judge.Looks(c.Thing))
		check("Decide", v)
		check("Least", p)
		for role := 1; role <= 2; role++ {
			left, _ := judge.Left(c, role)
			check("Left", left)
			check("Persons", judge.Persons(left))
			ranked, _ := judge.Ranked(c, role)
			check("Ranked", ranked)
			x, _ := judge.Certify(c, role)
			check("Certify", x)
			judge.CheckCert(c, role, x)
			judge.CheckPlan(c, role, p)
			judge.Count(c, role)
			judge.Separates(c, role, c.May)
			judge.Worth(c, role, api.Look{Layer: 1})
		}
		l, _ := judge.Candidates(c)
		check("Candidates", l)
		for kind := range uint8(7) {
			names, _ := judge.Names(c, kind, who)
			check("Names", names)
			judge.Common(c, kind, who, who)
			judge.Apart(c, kind, who, who)
		}
		judge.Fits(c, who, api.Look{Layer: 1})
		judge.CheckVerdict(c, v)
		doubt, _ := judge.Doubt(c, api.Verdict{Kind: api.VerDeliver, To: v.To}, c.Books, c.Day)
		check("Doubt", doubt)
		same(t, "the arguments", whole(reflect.ValueOf(arguments)), before)
	}
	cases(t, 21, 120, 6, try)
	planCases(t, 22, 60, try)
	same(t, "all were called", calls > 3000, true)
}

// R4.
func TestCallsAreRepeatable(t *testing.T) {
	cases(t, 23, 40, 4, func(c api.Case, r *rand.Rand) {
		first := everything(c)
		for range 3 {
			same(t, "all that is said of a case", everything(c), first)
		}
	})
}

// R3: nil and empty slices are equivalent, also within structs.
func TestEmptySlices(t *testing.T) {
	for _, c := range []api.Case{sample(), sampleMade()} {
		c.Thing.Layers = append(c.Thing.Layers, api.Layer{})
		d := copyCase(c)
		d.Thing.Layers[2] = api.Layer{Pieces: []api.Piece{}, Goods: []api.Amount{}}
		d.Books.Spells = []api.Spell{}
		same(t, "all that is said with empty slices", everything(d), everything(c))
		c.May, d.May = nil, []api.Look{}
		c.Books.People, d.Books.People = nil, []api.Entry{}
		same(t, "all that is said with an empty directory", everything(d), everything(c))
		c.Made, d.Made, c.Opened, d.Opened = nil, []api.Look{}, 0, 0
		c.Books.Places, d.Books.Places = nil, []api.PlaceEvent{}
		same(t, "all that is said without books and looks", everything(d), everything(c))
	}
	c := sample()
	c.Books.People = nil
	v := api.Verdict{Kind: api.VerKeep}
	v.To.Left, v.To.Fell, v.Route.Hops, v.Plan.Looks, v.Plan.Rungs = []pair{}, []api.Fell{}, []api.Hop{}, []api.Look{}, []api.Rung{}
	right, e := judge.CheckVerdict(c, v)
	same(t, "CheckVerdict", show(right, e), "[true 0]")
	right, e = judge.CheckPlan(c, api.RoleTo, v.Plan)
	same(t, "CheckPlan", show(right, e), "[true 0]")
	least, _, _ := judge.Least(sample(), api.RoleTo)
	least.Rungs[0].Looks = []api.Look{}
	right, e = judge.CheckPlan(sample(), api.RoleTo, least)
	same(t, "CheckPlan of a rung", show(right, e), "[true 0]")
	_, _, ok, e := judge.Separates(c, api.RoleTo, []api.Look{})
	same(t, "Separates", show(ok, e), "[true 0]")
}

// R1: fields with extreme values.
func TestExtremes(t *testing.T) {
	c := sample()
	for _, n := range extremes() {
		for _, m := range extremes() {
			l, who := api.Look{Layer: n, Piece: m}, pair{Person: n, Place: m}
			has := slices.Contains(allLooks(c.Thing), l)
			_, fits, e := judge.Fits(c, who, l)
			same(t, "Fits", show(fits, e == api.OK), show(n == 1 && m == 0, n == 1 && m == 0))
			_, e = judge.Worth(c, api.RoleTo, l)
			same(t, "Worth", e == api.OK, has)
			_, _, _, e = judge.Separates(c, api.RoleTo, []api.Look{l})
			same(t, "Separates", e == api.OK, has)
			x := api.Cert{Left: []pair{who}, Fell: []api.Fell{{Who: who, By: l}}}
			p := api.Plan{Looks: []api.Look{l}, Intrusion: n, Rungs: []api.Rung{{Looks: []api.Look{l}, A: who, B: who}}}
			v := api.Verdict{Kind: uint8(n), Who: who, Place: m, Look: l, To: x, From: x, Plan: p, Route: api.Route{Kind: uint8(m), End: who, Back: n}}
			right, e := judge.CheckCert(c, api.RoleTo, x)
			same(t, "CheckCert", show(right, e), "[false 0]")
			right, e = judge.CheckPlan(c, api.RoleTo, p)
			same(t, "CheckPlan", show(right, e), "[false 0]")
			right, e = judge.CheckVerdict(c, v)
			same(t, "CheckVerdict", show(right, e), "[false 0]")
			for kind := range uint8(8) {
				names, e := judge.Names(c, kind, who)
				same(t, "Names", show(len(names) > 0, e == api.OK), show(kind%3 == 1 && kind < 7 && in(n, 1, 3) || kind%3 == 2 && kind < 7 && in(m, 1, 3) || kind%3 == 0 && kind > 0 && in(m, 2, 3), in(int(kind), 1, 6)))
			}
			d := api.Case{Day: n, Opened: m, Made: []api.Look{l}, May: []api.Look{l}, Thing: api.Thing{Id: n, Day: m}, Weights: [3]int{n, m, n}}
			same(t, "Check", judge.Check(d), caseError(d))
			left, e := judge.Doubt(c, api.Verdict{Kind: api.VerDeliver, Who: who}, c.Books, m)
			same(t, "Doubt", e, doubtError(c, api.Verdict{Kind: api.VerDeliver}, changed(func(c *api.Case) { c.Day = m })))
			same(t, "Doubt of another person", e != api.OK || len(left) > 0, true)
		}
		same(t, "the error for a role", judgeAsRole(c, n), roleError(c, n))
	}
}

// judgeAsRole returns the error of Left, which is that of all functions that take a role.
func judgeAsRole(c api.Case, role int) api.Errno {
	_, e := judge.Left(c, role)
	return e
}
