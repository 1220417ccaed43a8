package seals_test

import (
	"fmt"
	"math/rand"
	"reflect"
	"testing"

	"restante/api"
	"restante/seals"
)

// area is the memory behind a slice.
type area struct{ from, to uintptr }

// areasOf returns the memory behind all slices in a value, up to their capacities.
func areasOf(v reflect.Value) []area {
	var list []area
	switch v.Kind() {
	case reflect.Slice:
		if v.Cap() == 0 || v.Type().Elem().Size() == 0 {
			return nil
		}
		from := v.Pointer()
		list = append(list, area{from, from + uintptr(v.Cap())*v.Type().Elem().Size()})
		for i := range v.Len() {
			list = append(list, areasOf(v.Index(i))...)
		}
	case reflect.Struct:
		for i := range v.NumField() {
			list = append(list, areasOf(v.Field(i))...)
		}
	case reflect.Interface:
		return areasOf(v.Elem())
	}
	return list
}

// whole returns a text of a value in which all slices reach as far as their memory does.
func whole(v reflect.Value) string {
	text := ""
	switch v.Kind() {
	case reflect.Slice:
		for i := range v.Cap() {
			text += whole(v.Slice(0, v.Cap()).Index(i)) + ","
		}
	case reflect.Struct:
		for i := range v.NumField() {
			text += whole(v.Field(i)) + ";"
		}
	case reflect.Interface:
		return whole(v.Elem())
	default:
		return fmt.Sprint(v)
	}
	return "{" + text + "}"
}

// noneShared fails if any two slices in the results share memory with each other or with the arguments.
func noneShared(t *testing.T, what string, results []any, given []area) {
	t.Helper()
	got := areasOf(reflect.ValueOf(results))
	for i, a := range got {
		for _, b := range append(given, got[:i]...) {
			if a.from < b.to && b.from < a.to {
				t.Fatalf("%s: slices share memory", what)
			}
		}
	}
}

// R3: results are new memory, and arguments are not changed, also behind their lengths.
func TestMemory(t *testing.T) {
	calls := 0
	scenes(t, 18, 150, func(x scene, r *rand.Rand) {
		room, from, l := 1+r.Intn(8), 1+r.Intn(8), randomLook(r, x.thing)
		arguments := []any{x.thing, x.seal, x.policy}
		before, given := whole(reflect.ValueOf(arguments)), areasOf(reflect.ValueOf(arguments))
		check := func(what string, results ...any) {
			t.Helper()
			noneShared(t, what, results, given)
			calls++
		}
		docket, _ := seals.Docket(x.thing, 1)
		check("Docket", docket)
		looks, _ := seals.Allowed(x.thing, x.seal, x.policy, x.fact)
		check("Allowed", looks)
		s, piece, _ := seals.Take(x.thing, x.seal, x.policy, x.fact, l)
		check("Take", s, piece)
		s, looks, _ = seals.Hand(x.thing, x.seal, x.policy, x.fact, from)
		check("Hand", s, looks)
		s, looks, _ = seals.Pass(x.thing, x.seal, x.policy, x.fact, from)
		check("Pass", s, looks)
		v, _ := seals.See(x.thing, x.seal, room)
		check("See", v)
		seen := whole(reflect.ValueOf(v))
		seals.Possible(v, x.thing)
		seals.Narrower(v, v)
		seals.Alike(x.thing, x.thing, x.seal, room)
		seals.Depth(x.seal, room)
		seals.Charge(x.seal, x.policy, room)
		seals.Apply(x.policy, x.fact)
		seals.Since(x.policy, x.fact)
		seals.Differ(x.policy, x.policy)
		if len(x.seal.Rooms) > 0 {
			seals.Intrusion(x.policy.Weights, 0, x.seal.Rooms[0].Looks)
		}
		text, e := seals.PutThing(x.thing, x.seal, room)
		if e == api.OK {
			thing, s, _, _ := seals.GetThing(text)
			check("GetThing", thing, s)
		}
		same(t, "the arguments", whole(reflect.ValueOf(arguments)), before)
		same(t, "the view", whole(reflect.ValueOf(v)), seen)
	})
	same(t, "all were called", calls > 900, true)
}

// R3.
func TestMemoryOfRules(t *testing.T) {
	r := rand.New(rand.NewSource(19))
	for range 60 {
		rules := randomRules(r, 3+r.Intn(4), 99)
		before, given := whole(reflect.ValueOf(rules)), areasOf(reflect.ValueOf(rules))
		p, _, _ := seals.Compile(rules)
		noneShared(t, "Compile", []any{p}, given)
		got, fault := seals.Parse(seals.Print(rules))
		same(t, "Parse", fault, api.Fault{})
		noneShared(t, "Parse", []any{got}, given)
		seals.Decide(rules, randomFact(r))
		seals.Holds(rules.List[0].If, randomFact(r))
		same(t, "the rules", whole(reflect.ValueOf(rules)), before)
	}
}

// R4.
func TestCallsAreRepeatable(t *testing.T) {
	r := rand.New(rand.NewSource(20))
	for range 30 {
		rules := randomRules(r, 12, 9)
		all := func() string {
			p, clash, e := seals.Compile(rules)
			return show(p, clash, e, seals.Print(rules))
		}
		first := all()
		for range 3 {
			same(t, "all that is said of rules", all(), first)
		}
	}
}

// R3: nil and empty slices are equivalent, also within structs.
func TestEmptySlices(t *testing.T) {
	full := func(empty bool) (api.Thing, api.Seal, api.Policy, api.Rules, api.View) {
		x := thingOf(api.Layer{}, layerOf(2))
		s, p, rules := api.Seal{Thing: 9, Opened: 1}, plain(-1), ruled(node(1, 0))
		v := api.View{Thing: 9, Day: 5, Dockets: [][]uint8{nil, {2}}}
		if empty {
			x.Layers[0] = api.Layer{Pieces: []api.Piece{}, Goods: []api.Amount{}}
			x.Layers[1].Goods, x.Layers[1].Pieces[0].Cells = []api.Amount{}, []api.Cell{}
			s.Rooms, v.Parts, v.Dockets[0] = []api.Shown{}, []api.Part{}, []uint8{}
			rules.List[0].If.Of = []api.Cond{}
		}
		return x, s, p, rules, v
	}
	var texts []string
	for _, empty := range []bool{false, true} {
		x, s, p, rules, v := full(empty)
		y, _, _, _, w := full(!empty)
		looks, e := seals.Allowed(x, s, p, api.Fact{Room: 1})
		text, e2 := seals.PutThing(x, s, 1)
		q, _, e3 := seals.Compile(rules)
		see, e4 := seals.See(x, s, 1)
		texts = append(texts, show(looks, e, text, e2, q, e3, see, e4, seals.CheckSeal(x, s), seals.CheckRules(rules), seals.Print(rules)))
		same(t, "Possible, Alike, Narrower", fmt.Sprint(seals.Possible(v, y), seals.Alike(x, y, s, 1), seals.Narrower(v, w), seals.Narrower(w, v)), "true true true true")
	}
	same(t, "all that is said with empty slices", texts[1], texts[0])
	same(t, "CheckRules without rules", seals.CheckRules(api.Rules{List: []api.Rule{}}), api.OK)
	n, e := seals.Intrusion([3]int{}, 0, []api.Look{})
	same(t, "Intrusion", fmt.Sprint(n, e), "0 0")
}

// R1: fields with extreme values.
func TestExtremes(t *testing.T) {
	x := thingOf(layerOf(1), layerOf(2))
	p := plain(-1)
	for _, n := range extremes() {
		for _, m := range extremes() {
			l := api.Look{Layer: n, Piece: m}
			s := api.Seal{Thing: 9, Opened: 2, Rooms: []api.Shown{{Room: n, Looks: []api.Look{{Layer: m, Piece: n}}}}}
			f := api.Fact{Room: n, Layer: m, Days: n, To: uint8(n), From: uint8(m)}
			thing := api.Thing{Id: n, Day: m, Layers: []api.Layer{{Goods: []api.Amount{{Unit: "a", N: n}}}}}
			v := api.View{Thing: 9, Day: 5, Opened: n, Dockets: [][]uint8{{1}, {2}}, Parts: []api.Part{{Look: l, Piece: api.Piece{Kind: 1}}}}
			rules := api.Rules{Weights: [3]int{0, n, m}, List: []api.Rule{{Name: "a", Rank: n, Layer: m, If: node(uint8(n), m)}}}
			row := api.Policy{Weights: [3]int{n, m, 0}, Rows: []api.Row{{Room: n, Layer: m, Spans: []api.Span{{From: n, Rule: m}}}}}
			same(t, "CheckThing", seals.CheckThing(thing), thingError(thing))
			same(t, "CheckSeal", seals.CheckSeal(x, s), sealError(x, s))
			same(t, "CheckRules", seals.CheckRules(rules), rulesError(rules))
			same(t, "CheckPolicy", seals.CheckPolicy(row), api.ErrArg)
			same(t, "Depth", seals.Depth(s, n), depthOf(s, n))
			same(t, "Holds", seals.Holds(node(3, n), f), in(n, 0, 100000) && f.Days < n)
			same(t, "Possible", seals.Possible(v, x), possible(v, x))
			for _, layer := range []int{n, m} {
				_, e := seals.Docket(x, layer)
				same(t, "Docket", e == api.OK, in(layer, 1, 2))
			}
			_, _, e := seals.Decide(rules, f)
			_, _, e2 := decideOf(rules, f)
			same(t, "Decide", e, e2)
			_, _, e = seals.Take(x, api.Seal{Thing: 9}, p, api.Fact{Room: 1}, l)
			_, _, e2 = takeOf(x, api.Seal{Thing: 9}, p, api.Fact{Room: 1}, l)
			same(t, fmt.Sprint("Take of ", l), e, e2)
			for _, looks := range [][]api.Look{{l}, {l, {Layer: m, Piece: n}}} {
				sum, e := intrusionOf([3]int{1, 2, 3}, n, looks)
				same(t, "Intrusion", fmt.Sprint(seals.Intrusion([3]int{1, 2, 3}, n, looks)), fmt.Sprint(sum, e))
			}
			days, found := sinceOf(p, f)
			same(t, "Since", fmt.Sprint(seals.Since(p, f)), fmt.Sprint(days, found))
			same(t, "Apply", fmt.Sprint(seals.Apply(row, f)), "false -1")
			same(t, "Differ", fmt.Sprint(seals.Differ(row, p)), fmt.Sprint(api.Fact{}, false))
			got, _, _, e := seals.GetThing(fmt.Sprintf("thing %d %d 1 0\nlayer\n", n, m))
			same(t, "GetThing", e == api.OK, in(n, 1, 1000000) && in(m, 0, 100000))
			same(t, "the thing", got.Id, map[bool]int{true: n}[e == api.OK])
		}
	}
}
