package seals_test

import (
	"fmt"
	"math/rand"
	"slices"
	"testing"

	"restante/api"
	"restante/seals"
)

// spoiltView returns a view of which a field has any value.
func spoiltView(r *rand.Rand, v api.View) api.View {
	v.Dockets, v.Parts = slices.Clone(v.Dockets), slices.Clone(v.Parts)
	part := &api.Part{}
	if len(v.Parts) > 0 {
		part = &v.Parts[r.Intn(len(v.Parts))]
		part.Piece = copyPiece(part.Piece)
	}
	switch r.Intn(10) {
	case 0:
		v.Thing = pick(r, extremes()...)
	case 1:
		v.Day = pick(r, extremes()...)
	case 2:
		v.Opened = pick(r, extremes()...)
	case 3:
		v.Dockets = pick(r, nil, v.Dockets[:0], append(v.Dockets, nil), append(v.Dockets, []uint8{7}))
	case 4:
		i := r.Intn(max(len(v.Dockets), 1))
		if i < len(v.Dockets) {
			v.Dockets[i] = pick(r, nil, []uint8{}, []uint8{1}, append(slices.Clone(v.Dockets[i]), 1))
		}
	case 5:
		part.Look.Layer = pick(r, extremes()...)
	case 6:
		part.Look.Piece = pick(r, extremes()...)
	case 7:
		part.Piece.Kind = uint8(r.Intn(256))
	case 8:
		part.Piece.Cells = randomCells(r)
	case 9:
		v.Parts = append(v.Parts, *part)
		slices.Reverse(v.Parts)
	}
	return v
}

// D20, D21, D22, P4.6.
func TestViewsAgainstTheOracle(t *testing.T) {
	met := map[string]int{}
	scenes(t, 16, 6000, func(x scene, r *rand.Rand) {
		room := pick(r, append(extremes(), 1, 2, 3, 4, 5, 6, 7, 8, 1, 2, 3, 4, 5, 6, 7, 8, 1, 2, 3, 4, 5, 6, 7, 8)...)
		v, e := seals.See(x.thing, x.seal, room)
		want, e2 := viewOf(x.thing, x.seal, room)
		equal(t, fmt.Sprint("See of the room ", room), []any{v, e}, []any{want, e2})
		met[fmt.Sprint("See ", e)]++
		same(t, "what was seen is possible", seals.Possible(v, x.thing), e == api.OK)
		u := lookAlike(r, x.thing, slices.DeleteFunc(allLooks(x.thing), func(api.Look) bool { return r.Intn(3) == 0 }))
		if r.Intn(8) == 0 {
			u = spoiltThing(r, u)
		}
		w, e2 := viewOf(u, x.seal, room)
		alike := e == api.OK && e2 == api.OK && show(w) == show(v)
		same(t, "Alike", seals.Alike(x.thing, u, x.seal, room), alike)
		same(t, "Possible", seals.Possible(v, u), possible(v, u))
		if e == api.OK && sealError(u, x.seal) == api.OK {
			same(t, "Possible is Alike", possible(v, u), alike)
		}
		met[fmt.Sprint("Alike ", alike)]++
		// views that are narrower, and any others
		few := api.View{Thing: v.Thing, Day: v.Day, Opened: r.Intn(4), Dockets: v.Dockets, Parts: slices.DeleteFunc(slices.Clone(v.Parts), func(api.Part) bool { return r.Intn(2) == 0 })}
		for range 3 {
			a, b := pick(r, v, w, few), pick(r, v, w, few)
			if r.Intn(2) == 0 {
				a = spoiltView(r, a)
			}
			if r.Intn(4) == 0 {
				b = spoiltView(r, b)
			}
			same(t, fmt.Sprintf("Narrower of %+v and %+v", a, b), seals.Narrower(a, b), narrower(a, b))
			met[fmt.Sprint("Narrower ", narrower(a, b))]++
			for _, y := range []api.Thing{x.thing, u} {
				same(t, fmt.Sprintf("Possible of %+v", a), seals.Possible(a, y), possible(a, y))
				if narrower(a, b) && possible(a, y) {
					same(t, "what is possible for the narrower one", seals.Possible(b, y), true)
				}
			}
		}
	})
	for _, x := range []string{"See 0", "See 1", "See 2", "Alike true", "Alike false", "Narrower true", "Narrower false"} {
		if met[x] < 50 {
			t.Errorf("only %d of %s", met[x], x)
		}
	}
}

// D20 to D22: each field of a view.
func TestViews(t *testing.T) {
	x := thingOf(celled(1, "a"), layerOf(), layerOf(2, 3))
	s := api.Seal{Thing: 9, Opened: 3, Rooms: []api.Shown{{Room: 3, Looks: []api.Look{{Layer: 1}}}, {Room: 8, Looks: []api.Look{{Layer: 1}, {Layer: 3, Piece: 1}}}}}
	see := func(room int) api.View {
		v, e := seals.See(x, s, room)
		same(t, "See", e, api.OK)
		return v
	}
	equal(t, "See of nothing", see(1), "{Thing:9 Day:5 Opened:0 Dockets:[[1] [] [2 3]] Parts:[]}")
	equal(t, "See of a cover", see(3), "{Thing:9 Day:5 Opened:1 Dockets:[[1] [] [2 3]] Parts:[{Look:{Layer:1 Piece:0} Piece:{Kind:1 Cells:[{Alts:[{Letters:a Cost:0}]}]}}]}")
	same(t, "Opened", see(8).Opened, 3)
	for _, room := range []int{0, 9, -1} {
		v, e := seals.See(x, s, room)
		equal(t, fmt.Sprint("the room ", room), []any{v, e}, []any{api.View{}, api.ErrArg})
		same(t, "Alike", seals.Alike(x, x, s, room), false)
	}
	_, e := seals.See(thingOf(layerOf(), layerOf(), layerOf(), layerOf()), s, 9)
	same(t, "a thing goes before a room", e, api.ErrLimit)
	_, e = seals.See(x, api.Seal{Thing: 8}, 3)
	same(t, "a seal", e, api.ErrArg)
	v := see(8)
	same(t, "Narrower", fmt.Sprint(seals.Narrower(v, see(3)), seals.Narrower(see(3), v), seals.Narrower(v, v), seals.Narrower(see(3), see(1))), "true false true true")
	for i, change := range []func(v *api.View, x *api.Thing){
		func(v *api.View, x *api.Thing) { v.Thing = 8 },
		func(v *api.View, x *api.Thing) { v.Day = 6 },
		func(v *api.View, x *api.Thing) { v.Dockets[1] = []uint8{1} },
		func(v *api.View, x *api.Thing) { v.Dockets = v.Dockets[:2] },
		func(v *api.View, x *api.Thing) { v.Dockets = append(v.Dockets, nil) },
		func(v *api.View, x *api.Thing) { v.Parts[0].Look.Piece = 1 },
		func(v *api.View, x *api.Thing) { v.Parts[1].Look.Layer = 4 },
		func(v *api.View, x *api.Thing) { v.Parts[1].Piece.Kind = 2 },
		func(v *api.View, x *api.Thing) { v.Parts[0].Piece.Cells = nil },
		func(v *api.View, x *api.Thing) { v.Parts[0].Piece.Cells[0].Alts[0].Cost = 1 },
		func(v *api.View, x *api.Thing) { x.Id = 0 },
		func(v *api.View, x *api.Thing) { x.Layers[0].Goods = []api.Amount{{Unit: "a"}} },
		func(v *api.View, x *api.Thing) { x.Layers[2].Pieces = x.Layers[2].Pieces[:1] },
	} {
		w, y := see(8), copyThing(x)
		same(t, "Possible", seals.Possible(w, y), true)
		change(&w, &y)
		same(t, fmt.Sprint("Possible with the change ", i), seals.Possible(w, y), false)
		if i < 10 {
			same(t, fmt.Sprint("Narrower with the change ", i), seals.Narrower(v, w), false)
			same(t, fmt.Sprint("Narrower with the change ", i), seals.Narrower(w, v), false)
		}
	}
	other := v
	other.Opened = 2
	same(t, "less is open", fmt.Sprint(seals.Narrower(v, other), seals.Narrower(other, v), seals.Possible(other, x)), "true false true")
}
