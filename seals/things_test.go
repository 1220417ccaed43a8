package seals_test

import (
	"fmt"
	"math"
	"math/rand"
	"slices"
	"strings"
	"testing"

	"restante/api"
	"restante/seals"
)

// layerOf returns a layer with pieces of these kinds, all without cells.
func layerOf(kinds ...uint8) api.Layer {
	var x api.Layer
	for _, kind := range kinds {
		x.Pieces = append(x.Pieces, api.Piece{Kind: kind})
	}
	return x
}

// goodsOf returns a layer with these goods, one unit of each.
func goodsOf(units ...string) api.Layer {
	var x api.Layer
	for _, unit := range units {
		x.Goods = append(x.Goods, api.Amount{Unit: unit, N: 1})
	}
	return x
}

func thingOf(layers ...api.Layer) api.Thing { return api.Thing{Id: 9, Day: 5, Layers: layers} }

// celled returns a layer with one piece with this number of cells.
func celled(n int, letters string) api.Layer {
	return api.Layer{Pieces: []api.Piece{{Kind: 1, Cells: slices.Repeat([]api.Cell{{Alts: []api.Alt{{Letters: letters}}}}, n)}}}
}

// D11: every limit at its value and one beyond, and the order of the errors.
func TestThingErrors(t *testing.T) {
	one, six, seven := layerOf(1), layerOf(1, 2, 3, 4, 5, 6), layerOf(1, 2, 3, 4, 5, 6, 1)
	goods6, goods7 := goodsOf("a", "b", "c", "d", "e", "f"), goodsOf("a", "b", "c", "d", "e", "f", "g")
	amount := func(unit string, n int) api.Layer { return api.Layer{Goods: []api.Amount{{Unit: unit, N: n}}} }
	both := func(x, y api.Layer) api.Layer { return api.Layer{Pieces: x.Pieces, Goods: y.Goods} }
	for i, x := range []struct {
		thing api.Thing
		want  api.Errno
	}{
		{thingOf(one), api.OK}, {thingOf(api.Layer{}), api.OK}, {thingOf(), api.ErrArg},
		{api.Thing{Id: 1, Layers: []api.Layer{one}}, api.OK}, {api.Thing{Id: 0, Layers: []api.Layer{one}}, api.ErrArg}, {api.Thing{Id: 1000000, Layers: []api.Layer{one}}, api.OK}, {api.Thing{Id: 1000001, Layers: []api.Layer{one}}, api.ErrArg},
		{api.Thing{Id: 1, Day: 100000, Layers: []api.Layer{one}}, api.OK}, {api.Thing{Id: 1, Day: 100001, Layers: []api.Layer{one}}, api.ErrArg}, {api.Thing{Id: 1, Day: -1, Layers: []api.Layer{one}}, api.ErrArg},
		{thingOf(one, one, one), api.OK}, {thingOf(one, one, one, one), api.ErrLimit}, {api.Thing{Id: 0, Layers: []api.Layer{one, one, one, one}}, api.ErrArg}, {api.Thing{Id: 1, Day: -1, Layers: []api.Layer{seven}}, api.ErrArg},
		{thingOf(six), api.OK}, {thingOf(seven), api.ErrLimit}, {thingOf(one, seven), api.ErrLimit}, {thingOf(goods6), api.OK}, {thingOf(goods7), api.ErrLimit}, {thingOf(one, one, goods7), api.ErrLimit},
		{thingOf(six, layerOf(1, 1, 1, 1)), api.OK}, {thingOf(six, layerOf(1, 1, 1, 1, 1)), api.ErrLimit}, {thingOf(six, layerOf(1, 1, 1, 1), one), api.ErrLimit}, {thingOf(layerOf(0), layerOf(7), seven), api.ErrLimit}, {thingOf(layerOf(0), goods7), api.ErrLimit},
		{thingOf(layerOf(6)), api.OK}, {thingOf(layerOf(7)), api.ErrArg}, {thingOf(layerOf(0)), api.ErrArg}, {thingOf(layerOf(255)), api.ErrArg}, {thingOf(one, layerOf(1, 0)), api.ErrArg},
		{thingOf(celled(32, "a")), api.OK}, {thingOf(celled(33, "a")), api.ErrLimit}, {thingOf(celled(1, "A")), api.ErrArg}, {thingOf(celled(33, "A")), api.ErrLimit},
		{thingOf(layerOf(0), celled(33, "a")), api.ErrArg}, {thingOf(celled(33, "a"), layerOf(0)), api.ErrLimit}, {thingOf(both(celled(33, "a"), goodsOf(""))), api.ErrLimit}, {thingOf(both(layerOf(), goodsOf("")), celled(33, "a")), api.ErrArg},
		{thingOf(amount("a", 1)), api.OK}, {thingOf(amount("a", 0)), api.ErrArg}, {thingOf(amount("a", 1000000000)), api.OK}, {thingOf(amount("a", 1000000001)), api.ErrArg}, {thingOf(amount("a", math.MinInt)), api.ErrArg},
		{thingOf(amount("", 1)), api.ErrArg}, {thingOf(amount("A", 1)), api.ErrArg}, {thingOf(amount(" a", 1)), api.ErrArg}, {thingOf(amount("a  b-1", 1)), api.OK}, {thingOf(amount(strings.Repeat("a", 24), 1)), api.OK}, {thingOf(amount(strings.Repeat("a", 25), 1)), api.ErrArg},
		{thingOf(goodsOf("a", "b")), api.OK}, {thingOf(goodsOf("a", "a")), api.ErrArg}, {thingOf(goodsOf("b", "a")), api.ErrArg}, {thingOf(goodsOf("a", "ab")), api.OK}, {thingOf(goodsOf("ab", "a")), api.ErrArg}, {thingOf(goodsOf("b"), goodsOf("a")), api.OK}, {thingOf(goodsOf("a"), goodsOf("a")), api.OK},
	} {
		same(t, fmt.Sprint("the oracle for ", i), thingError(x.thing), x.want)
		same(t, fmt.Sprintf("CheckThing of %d: %+v", i, x.thing), seals.CheckThing(x.thing), x.want)
	}
}

// D11, D12, D13.
func TestThingsAgainstTheOracle(t *testing.T) {
	r := rand.New(rand.NewSource(10))
	met := map[api.Errno]int{}
	for range 6000 {
		x := randomThing(r)
		if r.Intn(2) == 0 {
			x = spoiltThing(r, x)
		}
		want := thingError(x)
		met[want]++
		what := fmt.Sprintf(" of %+v", x)
		same(t, "CheckThing"+what, seals.CheckThing(x), want)
		s, e := seals.Begin(x)
		same(t, "Begin"+what, e, want)
		begun := api.Seal{}
		if want == api.OK {
			begun.Thing = x.Id
		}
		equal(t, "Begin"+what, s, begun)
		layer := pick(r, append(extremes(), 1, 2, 3, 1, 2, 3)...)
		docket, e := seals.Docket(x, layer)
		switch {
		case want != api.OK:
			same(t, "Docket"+what, fmt.Sprint(docket, e), fmt.Sprint([]uint8{}, want))
		case !in(layer, 1, len(x.Layers)):
			same(t, "Docket"+what, fmt.Sprint(docket, e), fmt.Sprint([]uint8{}, api.ErrNone))
		default:
			same(t, "Docket"+what, fmt.Sprint(docket, e), fmt.Sprint(docketsOf(x)[layer-1], api.OK))
		}
	}
	if met[api.OK] < 1000 || met[api.ErrArg] < 500 || met[api.ErrLimit] < 200 {
		t.Errorf("only these results: %v", met)
	}
}

// D14: each row breaks one demand.
func TestSealErrors(t *testing.T) {
	x := thingOf(layerOf(1, 2), layerOf(3), layerOf())
	look := func(layer, piece int) api.Look { return api.Look{Layer: layer, Piece: piece} }
	room := func(room int, looks ...api.Look) api.Shown { return api.Shown{Room: room, Looks: looks} }
	seal := func(opened int, rooms ...api.Shown) api.Seal {
		return api.Seal{Thing: 9, Opened: opened, Rooms: rooms}
	}
	for i, y := range []struct {
		s    api.Seal
		want api.Errno
	}{
		{seal(0), api.OK}, {seal(3), api.OK}, {seal(4), api.ErrArg}, {seal(-1), api.ErrArg}, {api.Seal{Thing: 8}, api.ErrArg}, {api.Seal{}, api.ErrArg},
		{seal(1, room(1, look(1, 0))), api.OK}, {seal(1, room(8, look(1, 1))), api.OK}, {seal(1, room(0, look(1, 0))), api.ErrArg}, {seal(1, room(9, look(1, 0))), api.ErrArg}, {seal(1, room(-1, look(1, 0))), api.ErrArg},
		{seal(1, room(1)), api.ErrArg}, {seal(0, room(1, look(1, 0))), api.ErrArg}, {seal(1, room(1, look(2, 0))), api.ErrArg}, {seal(2, room(1, look(2, 0))), api.OK},
		{seal(3, room(1, look(1, 2))), api.ErrArg}, {seal(3, room(1, look(1, -1))), api.ErrArg}, {seal(3, room(1, look(0, 0))), api.ErrArg}, {seal(3, room(1, look(4, 0))), api.ErrArg}, {seal(3, room(1, look(3, 0))), api.ErrArg}, {seal(3, room(1, look(math.MinInt, 0))), api.ErrArg},
		{seal(2, room(1, look(1, 0), look(1, 1), look(2, 0))), api.OK}, {seal(2, room(1, look(1, 0), look(1, 0))), api.ErrArg}, {seal(2, room(1, look(1, 1), look(1, 0))), api.ErrArg}, {seal(2, room(1, look(2, 0), look(1, 1))), api.ErrArg},
		{seal(1, room(1, look(1, 0)), room(2, look(1, 0))), api.OK}, {seal(1, room(2, look(1, 0)), room(2, look(1, 1))), api.ErrArg}, {seal(1, room(2, look(1, 0)), room(1, look(1, 0))), api.ErrArg}, {seal(1, room(1, look(1, 0)), room(2)), api.ErrArg},
	} {
		same(t, fmt.Sprint("the oracle for ", i), sealError(x, y.s), y.want)
		same(t, fmt.Sprintf("CheckSeal of %d: %+v", i, y.s), seals.CheckSeal(x, y.s), y.want)
	}
	same(t, "a thing that is not valid", seals.CheckSeal(thingOf(layerOf(1), layerOf(), layerOf(), layerOf()), api.Seal{}), api.ErrLimit)
	short := thingOf(layerOf(1))
	same(t, "as many layers as the thing has", seals.CheckSeal(short, seal(1)), api.OK)
	same(t, "more layers than the thing has", seals.CheckSeal(short, seal(2)), api.ErrArg)
}

// D14, D15, D23: seals and looks with any values.
func TestSealsAgainstTheOracle(t *testing.T) {
	r := rand.New(rand.NewSource(11))
	met := map[string]int{}
	for range 10000 {
		x := randomThing(r)
		s := randomSeal(r, x)
		if r.Intn(2) == 0 {
			s = spoiltSeal(r, s)
		}
		if r.Intn(9) == 0 {
			x = spoiltThing(r, x)
		}
		what := fmt.Sprintf(" of %+v and %+v", s, x)
		same(t, "CheckSeal"+what, seals.CheckSeal(x, s), sealError(x, s))
		met[fmt.Sprint("CheckSeal ", sealError(x, s))]++
		room := pick(r, append(extremes(), 1, 2, 3, 4, 5, 6, 7, 8)...)
		same(t, "Depth"+what, seals.Depth(s, room), depthOf(s, room))
		weights := [3]int{r.Intn(1001), r.Intn(1001), r.Intn(1001)}
		if r.Intn(5) == 0 {
			weights[r.Intn(3)] = pick(r, extremes()...)
		}
		looks := shownOf(s, room)
		charge, _ := intrusionOf(weights, 0, looks)
		same(t, "Charge"+what, seals.Charge(s, api.Policy{Weights: weights}, room), charge)
		opened := pick(r, 0, 1, 2, 3, -1, 4, math.MinInt, math.MaxInt)
		n, e := intrusionOf(weights, opened, looks)
		met[fmt.Sprint("Intrusion ", e)]++
		same(t, "Intrusion"+what, fmt.Sprint(seals.Intrusion(weights, opened, looks)), fmt.Sprint(n, e))
	}
	for _, x := range []string{"CheckSeal 0", "CheckSeal 1", "CheckSeal 2", "Intrusion 0", "Intrusion 1"} {
		if met[x] < 100 {
			t.Errorf("only %d of %s", met[x], x)
		}
	}
}

// D15: each row is a limit or one beyond.
func TestIntrusion(t *testing.T) {
	weights := [3]int{5, 20, 600}
	look := func(layer, piece int) api.Look { return api.Look{Layer: layer, Piece: piece} }
	for _, x := range []struct {
		weights [3]int
		opened  int
		looks   []api.Look
		want    string
	}{
		{weights, 0, nil, "0 0"}, {weights, 3, nil, "0 0"}, {weights, 0, []api.Look{look(1, 0)}, "6 0"}, {weights, 0, []api.Look{look(3, 5)}, "626 0"}, {weights, 1, []api.Look{look(3, 0)}, "621 0"}, {weights, 2, []api.Look{look(1, 0), look(3, 0)}, "602 0"},
		{weights, 2, []api.Look{look(1, 0), look(2, 0)}, "2 0"}, {weights, 3, []api.Look{look(3, 0), look(3, 1)}, "2 0"}, {weights, 1, []api.Look{look(2, 0), look(2, 5)}, "22 0"},
		{weights, 4, nil, "0 1"}, {weights, -1, nil, "0 1"}, {[3]int{1000, 1000, 1000}, 0, []api.Look{look(3, 0)}, "3001 0"}, {[3]int{1001}, 0, nil, "0 1"}, {[3]int{0, 1001}, 0, nil, "0 1"}, {[3]int{0, 0, 1001}, 0, nil, "0 1"}, {[3]int{0, -1}, 0, nil, "0 1"},
		{weights, 0, []api.Look{look(0, 0)}, "0 1"}, {weights, 0, []api.Look{look(4, 0)}, "0 1"}, {weights, 0, []api.Look{look(1, -1)}, "0 1"}, {weights, 0, []api.Look{look(1, 6)}, "0 1"},
		{weights, 0, []api.Look{look(1, 0), look(1, 0)}, "0 1"}, {weights, 0, []api.Look{look(2, 0), look(1, 5)}, "0 1"}, {weights, 0, []api.Look{look(1, 1), look(1, 0)}, "0 1"}, {weights, 0, []api.Look{look(1, 5), look(2, 0)}, "27 0"},
	} {
		same(t, fmt.Sprintf("Intrusion of %+v", x), fmt.Sprint(seals.Intrusion(x.weights, x.opened, x.looks)), x.want)
	}
}

// D14, D23: seals that are valid for no thing.
func TestSealsOfNoThing(t *testing.T) {
	twice := api.Seal{Rooms: []api.Shown{{Room: 3, Looks: []api.Look{{Layer: 1}}}, {Room: -7, Looks: []api.Look{{Layer: 7}, {Layer: -3}}}, {Room: 3, Looks: []api.Look{{Layer: 3}}}}}
	p := api.Policy{Weights: [3]int{5, 20, 600}}
	same(t, "the depth of all elements", fmt.Sprint(seals.Depth(twice, 3), seals.Depth(twice, -7), seals.Depth(twice, 4)), "3 7 0")
	same(t, "the charge of the first element", fmt.Sprint(seals.Charge(twice, p, 3), seals.Charge(twice, p, -7), seals.Charge(twice, p, 4)), "6 0 0")
	p.Weights[2] = 1001
	same(t, "the charge with a weight that is not valid", seals.Charge(twice, p, 3), 0)
	same(t, "a negative layer", seals.Depth(api.Seal{Rooms: []api.Shown{{Room: 1, Looks: []api.Look{{Layer: math.MinInt}}}}}, 1), 0)
	same(t, "a great layer", seals.Depth(api.Seal{Rooms: []api.Shown{{Room: 1, Looks: []api.Look{{Layer: math.MaxInt}}}}}, 1), math.MaxInt)
}
