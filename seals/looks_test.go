package seals_test

import (
	"fmt"
	"math/rand"
	"slices"
	"testing"

	"restante/api"
	"restante/seals"
)

// D16 to D19.
func TestLooksAgainstTheOracle(t *testing.T) {
	met := map[string]int{}
	scenes(t, 12, 4000, func(x scene, r *rand.Rand) {
		may := []api.Look{}
		common := commonError(x.thing, x.seal, x.policy, x.fact)
		if common == api.OK {
			may = mayLooks(x.thing, x.seal, x.policy, x.fact)
		}
		looks, e := seals.Allowed(x.thing, x.seal, x.policy, x.fact)
		equal(t, "Allowed", []any{looks, e}, []any{may, common})
		met[fmt.Sprint("Allowed ", e, len(looks) > 0)]++
		l := randomLook(r, x.thing)
		s, piece, e := seals.Take(x.thing, x.seal, x.policy, x.fact, l)
		s2, piece2, e2 := takeOf(x.thing, x.seal, x.policy, x.fact, l)
		equal(t, fmt.Sprint("Take of ", l), []any{s, piece, e}, []any{s2, piece2, e2})
		met[fmt.Sprint("Take ", e)]++
		from := pick(r, append(extremes(), 1, 2, 3, 4, 5, 6, 7, 8, 1, 2, 3, 4, 5, 6, 7, 8)...)
		if len(x.seal.Rooms) > 0 && r.Intn(2) == 0 {
			from = pick(r, x.seal.Rooms...).Room
		}
		s, looks, e = seals.Hand(x.thing, x.seal, x.policy, x.fact, from)
		s2, looks2, e2 := handOf(x.thing, x.seal, x.policy, x.fact, from)
		equal(t, fmt.Sprint("Hand from ", from), []any{s, looks, e}, []any{s2, looks2, e2})
		met[fmt.Sprint("Hand ", e, len(looks) > 0)]++
		s, looks, e = seals.Pass(x.thing, x.seal, x.policy, x.fact, from)
		s2, looks2, e2 = passOf(x.thing, x.seal, x.policy, x.fact, from)
		equal(t, fmt.Sprint("Pass from ", from), []any{s, looks, e}, []any{s2, looks2, e2})
		met[fmt.Sprint("Pass ", e, len(looks) > 0)]++
	})
	for _, x := range []string{"Allowed 0 true", "Allowed 0 false", "Allowed 1 false", "Allowed 2 false", "Take 0", "Take 1", "Take 5", "Take 6", "Take 41", "Hand 0 true", "Hand 0 false", "Hand 1 false", "Pass 0 true", "Pass 0 false", "Pass 1 false"} {
		if met[x] < 20 {
			t.Errorf("only %d of %s", met[x], x)
		}
	}
}

// errorsOf returns the errors of the functions D16 to D19.
func errorsOf(x api.Thing, s api.Seal, p api.Policy, f api.Fact, l api.Look, from int) string {
	_, a := seals.Allowed(x, s, p, f)
	_, _, b := seals.Take(x, s, p, f, l)
	_, _, c := seals.Hand(x, s, p, f, from)
	_, _, d := seals.Pass(x, s, p, f, from)
	return fmt.Sprint(a, b, c, d)
}

// D16 to D19: the order of the errors, and that the layer of the fact is not used.
func TestErrorsOfLooks(t *testing.T) {
	x := thingOf(layerOf(1, 2), layerOf(3), layerOf(4))
	s := api.Seal{Thing: 9, Opened: 2, Rooms: []api.Shown{{Room: 3, Looks: []api.Look{{Layer: 2}}}}}
	p := compiled(t, "weights 0 0 0\nrule a rank 1: open any if room 3 or room 4\nrule b rank 2: leave 3 if room 3")
	f, l := api.Fact{Room: 3}, api.Look{Layer: 1}
	long := thingOf(layerOf(), layerOf(), layerOf(), layerOf())
	badSeal := api.Seal{Thing: 9, Opened: 4}
	badFact := api.Fact{Room: 9}
	same(t, "no error", errorsOf(x, s, p, f, l, 4), "0 0 0 0")
	for _, layer := range extremes() {
		same(t, "any layer", errorsOf(x, s, p, api.Fact{Room: 3, Layer: layer}, l, 4), "0 0 0 0")
	}
	same(t, "a thing", errorsOf(long, badSeal, api.Policy{}, badFact, api.Look{}, 9), "2 2 2 2")
	same(t, "a seal", errorsOf(x, badSeal, p, f, l, 4), "1 1 1 1")
	same(t, "a policy", errorsOf(x, s, api.Policy{}, f, l, 4), "1 1 1 1")
	same(t, "a fact goes before a look", errorsOf(x, s, p, badFact, api.Look{Layer: 7}, 4), "1 1 1 1")
	for _, bad := range []api.Fact{{Room: 0}, {Room: 9}, {Room: 3, Days: -1}, {Room: 3, Days: 100001}, {Room: 3, To: 3}, {Room: 3, From: 3}} {
		same(t, fmt.Sprintf("the fact %+v", bad), errorsOf(x, s, p, bad, l, 4), "1 1 1 1")
	}
	same(t, "the room itself", errorsOf(x, s, p, f, l, 3), "0 0 1 0")
	same(t, "rooms that there are not", errorsOf(x, s, p, f, l, 0)+errorsOf(x, s, p, f, l, 9), "0 0 1 10 0 1 1")
	same(t, "the last room", errorsOf(x, s, p, f, l, 8), "0 0 0 0")
	same(t, "no such piece", errorsOf(x, s, p, f, api.Look{Layer: 3, Piece: 1}, 4), "0 5 0 0")
	same(t, "shown already", errorsOf(x, s, p, f, api.Look{Layer: 2}, 4), "0 6 0 0")
	same(t, "sealed", errorsOf(x, s, p, f, api.Look{Layer: 3}, 4), "0 41 0 0")
	same(t, "shown already, but sealed now", errorsOf(x, s, p, api.Fact{Room: 3, Days: 5}, api.Look{Layer: 2}, 4), "0 6 0 0")
	closed := compiled(t, "weights 0 0 0")
	same(t, "shown already, but sealed now", errorsOf(x, s, closed, f, api.Look{Layer: 2}, 4), "0 6 0 0")
}

// D16: which layers matter, by the depth of the room.
func TestDepthsOfRooms(t *testing.T) {
	x := thingOf(layerOf(1, 2), layerOf(1), layerOf(1))
	allowed := func(s api.Seal, room int, open string) string {
		looks, e := seals.Allowed(x, s, compiled(t, "weights 0 0 0\n"+open), api.Fact{Room: room})
		return fmt.Sprint(looks, e)
	}
	begun := api.Seal{Thing: 9}
	s := api.Seal{Thing: 9, Opened: 3, Rooms: []api.Shown{{Room: 2, Looks: []api.Look{{Layer: 3}}}, {Room: 5, Looks: []api.Look{{Layer: 1, Piece: 1}}}}}
	one, two, three := "rule a rank 1: open 1 if always\n", "rule b rank 1: open 2 if always\n", "rule c rank 1: open 3 if always\n"
	same(t, "all", allowed(begun, 1, one+two+three), "[{1 0} {1 1} {2 0} {3 0}] 0")
	same(t, "none", allowed(begun, 1, ""), "[] 0")
	same(t, "the first two", allowed(begun, 1, one+two), "[{1 0} {1 1} {2 0}] 0")
	same(t, "not through the second", allowed(begun, 1, one+three), "[{1 0} {1 1}] 0")
	same(t, "not through the first", allowed(begun, 1, two+three), "[] 0")
	same(t, "what other rooms were shown does not matter", allowed(s, 1, two+three), "[] 0")
	same(t, "all of the room with the depth 3", allowed(s, 2, one+two+three), "[{1 0} {1 1} {2 0}] 0")
	same(t, "each layer by itself", allowed(s, 2, two), "[{2 0}] 0")
	same(t, "from the depth 1 on", allowed(s, 5, two+three), "[{2 0} {3 0}] 0")
	same(t, "not through the second", allowed(s, 5, one+three), "[{1 0}] 0")
}

// D17 to D19, step by step.
func TestShowing(t *testing.T) {
	x := thingOf(layerOf(1, 2), layerOf(3))
	p := compiled(t, "weights 1 20 0\nrule a rank 1: open any if always\nrule b rank 2: leave 2 if room 4")
	s, _ := seals.Begin(x)
	s, piece, e := seals.Take(x, s, p, api.Fact{Room: 5}, api.Look{Layer: 2})
	equal(t, "Take", []any{s, piece, e}, []any{api.Seal{Thing: 9, Opened: 2, Rooms: []api.Shown{{Room: 5, Looks: []api.Look{{Layer: 2}}}}}, api.Piece{Kind: 3}, 0})
	s, piece, e = seals.Take(x, s, p, api.Fact{Room: 5}, api.Look{Layer: 1, Piece: 1})
	equal(t, "Take", []any{s.Opened, s.Rooms, piece.Kind, e}, []any{2, "[{Room:5 Looks:[{Layer:1 Piece:1} {Layer:2 Piece:0}]}]", 2, 0})
	same(t, "Charge", fmt.Sprint(seals.Charge(s, p, 5), seals.Charge(s, p, 4)), "23 0")
	handed, looks, e := seals.Hand(x, s, p, api.Fact{Room: 4}, 5)
	equal(t, "Hand of what may be opened", []any{handed.Opened, handed.Rooms, looks, e}, []any{2, "[{Room:4 Looks:[{Layer:1 Piece:1}]} {Room:5 Looks:[{Layer:1 Piece:1} {Layer:2 Piece:0}]}]", "[{Layer:1 Piece:1}]", 0})
	again, looks, e := seals.Hand(x, handed, p, api.Fact{Room: 4}, 5)
	equal(t, "Hand of nothing new", []any{again, looks, e}, []any{handed, []api.Look{}, 0})
	again, looks, e = seals.Hand(x, handed, p, api.Fact{Room: 3}, 8)
	equal(t, "Hand from a room without looks", []any{again, looks, e}, []any{handed, []api.Look{}, 0})
	passed, looks, e := seals.Pass(x, handed, p, api.Fact{Room: 4}, 5)
	equal(t, "Pass", []any{passed, looks, e}, []any{"{Thing:9 Opened:2 Rooms:[{Room:4 Looks:[{Layer:1 Piece:1}]}]}", "[{Layer:1 Piece:1}]", 0})
	passed, looks, e = seals.Pass(x, handed, p, api.Fact{Room: 5}, 5)
	equal(t, "Pass to a room with the same number", []any{passed, looks, e}, []any{"{Thing:9 Opened:2 Rooms:[{Room:5 Looks:[{Layer:1 Piece:1} {Layer:2 Piece:0}]}]}", "[{Layer:1 Piece:1} {Layer:2 Piece:0}]", 0})
	passed, looks, e = seals.Pass(x, handed, p, api.Fact{Room: 4}, 7)
	equal(t, "Pass of nothing", []any{passed, looks, e}, []any{"{Thing:9 Opened:2 Rooms:[]}", []api.Look{}, 0})
}

// lookAlike returns a thing that is alike for a room: what the room was not shown is any other.
func lookAlike(r *rand.Rand, t api.Thing, shown []api.Look) api.Thing {
	t = copyThing(t)
	for i := range t.Layers {
		t.Layers[i].Goods = nil
		for j := range t.Layers[i].Pieces {
			if !slices.Contains(shown, api.Look{Layer: i + 1, Piece: j}) {
				t.Layers[i].Pieces[j].Cells = randomCells(r)
			}
		}
	}
	return t
}

// without returns a seal in which rooms other than these two were shown nothing, but as many layers are open.
func without(s api.Seal, a, b int) api.Seal {
	s = copySeal(s)
	s.Rooms = slices.DeleteFunc(s.Rooms, func(x api.Shown) bool { return x.Room != a && x.Room != b })
	return s
}

// P4.5.
func TestSecrecy(t *testing.T) {
	alike := 0
	scenes(t, 13, 3000, func(x scene, r *rand.Rand) {
		if commonError(x.thing, x.seal, x.policy, x.fact) != api.OK {
			return
		}
		room, from := x.fact.Room, 1+r.Intn(8)
		u := lookAlike(r, x.thing, append(slices.Clone(shownOf(x.seal, room)), shownOf(x.seal, from)...))
		same(t, "Alike", seals.Alike(x.thing, u, x.seal, room) && seals.Alike(x.thing, u, x.seal, from), true)
		if show(u) != show(x.thing) {
			alike++
		}
		l := randomLook(r, x.thing)
		says := func(t api.Thing, s api.Seal) string {
			looks, e := seals.Allowed(t, s, x.policy, x.fact)
			_, _, taken := seals.Take(t, s, x.policy, x.fact, l)
			_, handed, hand := seals.Hand(t, s, x.policy, x.fact, from)
			_, passed, pass := seals.Pass(t, s, x.policy, x.fact, from)
			view, see := seals.See(t, s, room)
			return show(looks, e, taken, handed, hand, passed, pass, view, see)
		}
		want := says(x.thing, x.seal)
		same(t, "what is said of another thing", says(u, x.seal), want)
		same(t, "what is said where other rooms were shown nothing", says(x.thing, without(x.seal, room, from)), want)
	})
	if alike < 1000 {
		t.Errorf("only %d different things", alike)
	}
}

// P4.5: a view shows all that it showed before, and only looks that the policy allows.
func TestViewsOnlyGrow(t *testing.T) {
	scenes(t, 14, 3000, func(x scene, r *rand.Rand) {
		before, e := seals.See(x.thing, x.seal, x.fact.Room)
		if commonError(x.thing, x.seal, x.policy, x.fact) != api.OK || e != api.OK {
			return
		}
		check := func(s api.Seal, e api.Errno, had []api.Look) {
			t.Helper()
			if e != api.OK {
				return
			}
			same(t, "CheckSeal", seals.CheckSeal(x.thing, s), api.OK)
			after, e := seals.See(x.thing, s, x.fact.Room)
			same(t, "See", e, api.OK)
			for _, part := range after.Parts {
				if !slices.Contains(had, part.Look) && !openAt(x.policy, x.fact, part.Look.Layer) {
					t.Fatalf("the look %v is shown", part.Look)
				}
			}
			if had != nil {
				same(t, "Narrower", seals.Narrower(after, before), true)
				same(t, "the charge", seals.Charge(s, x.policy, x.fact.Room) >= seals.Charge(x.seal, x.policy, x.fact.Room), true)
			}
		}
		had := append([]api.Look{}, shownOf(x.seal, x.fact.Room)...)
		from := 1 + r.Intn(8)
		s, _, e := seals.Take(x.thing, x.seal, x.policy, x.fact, randomLook(r, x.thing))
		check(s, e, had)
		s, _, e = seals.Hand(x.thing, x.seal, x.policy, x.fact, from)
		check(s, e, had)
		s, looks, e := seals.Pass(x.thing, x.seal, x.policy, x.fact, from)
		check(s, e, nil)
		if e == api.OK {
			equal(t, "what Pass shows", shownOf(s, x.fact.Room), looks)
		}
	})
}

// P4.7.
func TestAllowedLooksAreTaken(t *testing.T) {
	taken := 0
	scenes(t, 15, 3000, func(x scene, r *rand.Rand) {
		looks, e := seals.Allowed(x.thing, x.seal, x.policy, x.fact)
		if e != api.OK {
			return
		}
		for _, l := range allLooks(x.thing) {
			_, _, e := seals.Take(x.thing, x.seal, x.policy, x.fact, l)
			same(t, fmt.Sprint("Take of ", l), e == api.OK, slices.Contains(looks, l))
		}
		s := x.seal
		for _, l := range looks {
			charge := seals.Charge(s, x.policy, x.fact.Room)
			next, piece, e := seals.Take(x.thing, s, x.policy, x.fact, l)
			same(t, fmt.Sprint("Take of ", l, " behind others"), e, api.OK)
			equal(t, "the piece", piece, x.thing.Layers[l.Layer-1].Pieces[l.Piece])
			same(t, "the charge", seals.Charge(next, x.policy, x.fact.Room) > charge, true)
			s = next
			taken++
		}
		rest, e := seals.Allowed(x.thing, s, x.policy, x.fact)
		same(t, "Allowed", e, api.OK)
		for _, l := range rest {
			same(t, fmt.Sprint("a look that was allowed before: ", l), slices.Contains(looks, l), false)
		}
	})
	if taken < 2000 {
		t.Errorf("only %d looks were taken", taken)
	}
}
