package seals_test

import (
	"math"
	"math/rand"
	"slices"
	"strconv"
	"strings"
	"testing"

	"restante/api"
	"restante/seals"
)

func pick[T any](r *rand.Rand, list ...T) T { return list[r.Intn(len(list))] }

// extremes are numbers that few fields may have.
func extremes() []int {
	return []int{math.MinInt, math.MinInt + 1, -100001, -1, 0, 1, 2, 3, 4, 8, 9, 1000, 1001, 100000, 100001, math.MaxInt32, math.MaxInt - 1, math.MaxInt}
}

// randomCond returns a valid condition of at most this depth, with few different days.
func randomCond(r *rand.Rand, depth int) api.Cond {
	op := uint8(1 + r.Intn(7))
	if depth > 1 && r.Intn(5) > 1 {
		op = uint8(8 + r.Intn(3))
	}
	c := api.Cond{Op: op}
	switch op {
	case 2:
		c.N = 1 + r.Intn(8)
	case 3, 4:
		c.N = pick(r, 0, 1, 2, 5, 5, 9, 9, 30, 99999, 100000)
	case 5, 6:
		c.N = r.Intn(3)
	case 8:
		c.Of = []api.Cond{randomCond(r, depth-1)}
	case 9, 10:
		for range 2 + r.Intn(2) {
			c.Of = append(c.Of, randomCond(r, depth-1))
		}
	}
	return c
}

// validCond returns a condition that has no error.
func validCond(r *rand.Rand) api.Cond {
	for {
		if c := randomCond(r, 1+r.Intn(6)); condError(c) == api.OK {
			return c
		}
	}
}

// copyCond returns a condition in new memory.
func copyCond(c api.Cond) api.Cond {
	c.Of = slices.Clone(c.Of)
	for i := range c.Of {
		c.Of[i] = copyCond(c.Of[i])
	}
	return c
}

// spoiltCond returns a condition of which one node has a field with any value.
func spoiltCond(r *rand.Rand, c api.Cond) api.Cond {
	c = copyCond(c)
	at := &c
	for len(at.Of) > 0 && r.Intn(3) > 0 {
		at = &at.Of[r.Intn(len(at.Of))]
	}
	switch r.Intn(3) {
	case 0:
		at.Op = uint8(pick(r, 0, 1, 2, 3, 4, 5, 6, 7, 8, 9, 10, 11, 255))
	case 1:
		at.N = pick(r, extremes()...)
	case 2:
		at.Of = append(slices.Clone(at.Of), randomCond(r, pick(r, 1, 5, 6)))
	}
	return c
}

// randomRules returns valid rules; few is how many different ranks they have.
func randomRules(r *rand.Rand, n, few int) api.Rules {
	rules := api.Rules{Weights: [3]int{r.Intn(1001), r.Intn(1001), r.Intn(1001)}}
	for i := range n {
		rules.List = append(rules.List, api.Rule{Name: "r" + strconv.Itoa(i), Rank: 1 + r.Intn(few), Layer: r.Intn(4), Open: r.Intn(2) == 0, If: validCond(r)})
	}
	return rules
}

// spoiltRules returns rules of which a field or two have any values.
func spoiltRules(r *rand.Rand, rules api.Rules) api.Rules {
	rules.List = slices.Clone(rules.List)
	for range 1 + r.Intn(2) {
		x := &api.Rule{}
		if len(rules.List) > 0 {
			x = &rules.List[r.Intn(len(rules.List))]
		}
		switch r.Intn(5) {
		case 0:
			rules.Weights[r.Intn(3)] = pick(r, extremes()...)
		case 1:
			x.Name = pick(r, "", "a", "r0", "r1", "A", "0", "-", "a b", "rule", strings.Repeat("a", 24), strings.Repeat("a", 25))
		case 2:
			x.Rank = pick(r, -1, 0, 1, 99, 100, math.MinInt, math.MaxInt)
		case 3:
			x.Layer = pick(r, extremes()...)
		case 4:
			x.If = spoiltCond(r, x.If)
		}
	}
	return rules
}

// randomFact returns a valid fact with one of the days at which conditions turn.
func randomFact(r *rand.Rand) api.Fact {
	return api.Fact{Room: 1 + r.Intn(8), Layer: 1 + r.Intn(3), Days: pick(r, 0, 1, 2, 4, 5, 8, 9, 10, 29, 30, 50, 99998, 99999, 100000),
		To: uint8(r.Intn(3)), From: uint8(r.Intn(3)), Claim: r.Intn(2) == 0}
}

// spoiltFact returns a fact with a field that has any value.
func spoiltFact(r *rand.Rand) api.Fact {
	f := randomFact(r)
	switch r.Intn(5) {
	case 0:
		f.Room = pick(r, extremes()...)
	case 1:
		f.Layer = pick(r, extremes()...)
	case 2:
		f.Days = pick(r, extremes()...)
	case 3:
		f.To = pick(r, uint8(2), 3, 255)
	case 4:
		f.From = pick(r, uint8(2), 3, 255)
	}
	return f
}

// randomPolicy returns a valid policy whose rows have any spans.
func randomPolicy(r *rand.Rand) api.Policy {
	p := api.Policy{Weights: [3]int{r.Intn(1001), r.Intn(1001), r.Intn(1001)}}
	open := pick(r, 1, 1, 1, 5) // of how many spans one is closed
	for _, f := range rowFacts() {
		row := api.Row{Room: f.Room, Layer: f.Layer, To: f.To, From: f.From, Claim: f.Claim}
		from := 0
		for range 1 + r.Intn(4) {
			x := api.Span{From: from, Rule: pick(r, -1, 0, 1, 2, 39)}
			x.Open = x.Rule >= 0 && r.Intn(1+open) > 0
			if n := len(row.Spans); n == 0 || row.Spans[n-1].Open != x.Open || row.Spans[n-1].Rule != x.Rule {
				row.Spans = append(row.Spans, x)
			}
			from += 1 + r.Intn(8)
		}
		if r.Intn(5) == 0 && row.Spans[len(row.Spans)-1].Rule != 7 {
			row.Spans = append(row.Spans, api.Span{From: 100000, Open: true, Rule: 7})
		}
		p.Rows = append(p.Rows, row)
	}
	return p
}

// copyPolicy returns a policy in new memory.
func copyPolicy(p api.Policy) api.Policy {
	p.Rows = slices.Clone(p.Rows)
	for i := range p.Rows {
		p.Rows[i].Spans = slices.Clone(p.Rows[i].Spans)
	}
	return p
}

// spoiltPolicy returns a policy of which a field or two have any values.
func spoiltPolicy(r *rand.Rand, p api.Policy) api.Policy {
	p = copyPolicy(p)
	for range 1 + r.Intn(2) {
		row := &p.Rows[r.Intn(len(p.Rows))]
		if len(row.Spans) == 0 {
			continue
		}
		x := &row.Spans[r.Intn(len(row.Spans))]
		switch r.Intn(11) {
		case 0:
			p.Weights[r.Intn(3)] = pick(r, extremes()...)
		case 1:
			row.Room = pick(r, extremes()...)
		case 2:
			row.Layer = pick(r, extremes()...)
		case 3:
			row.To = pick(r, uint8(0), 1, 2, 3, 255)
		case 4:
			row.From = pick(r, uint8(0), 1, 2, 3, 255)
		case 5:
			row.Claim = !row.Claim
		case 6:
			row.Spans = row.Spans[:r.Intn(len(row.Spans))]
		case 7:
			x.From = pick(r, extremes()...)
		case 8:
			x.Rule = pick(r, -2, -1, 39, 40, math.MinInt, math.MaxInt)
		case 9:
			x.Open = !x.Open
		case 10:
			row.Spans = append(row.Spans, *x)
		}
	}
	return p
}

// randomCells returns cells of few letters.
func randomCells(r *rand.Rand) []api.Cell {
	var cells []api.Cell
	for range r.Intn(4) {
		cell := api.Cell{Alts: []api.Alt{{Letters: pick(r, "a", "b", " ", "-", "", "rn", "the"), Cost: pick(r, 0, 0, 0, 1, 1000)}}}
		if r.Intn(3) == 0 {
			cell.Alts = append(cell.Alts, api.Alt{Letters: pick(r, "c", "7", "xyz"), Cost: pick(r, 0, 20)})
		}
		cells = append(cells, cell)
	}
	return cells
}

// randomThing returns a valid thing.
func randomThing(r *rand.Rand) api.Thing {
	t := api.Thing{Id: pick(r, 1, 9, 1000000), Day: pick(r, 0, 5, 100000)}
	for range 1 + r.Intn(3) {
		var layer api.Layer
		for range r.Intn(4) {
			layer.Pieces = append(layer.Pieces, api.Piece{Kind: uint8(1 + r.Intn(6)), Cells: randomCells(r)})
		}
		for _, unit := range []string{"a  b", "bond", "crown", "crown-1", "ring"} {
			if r.Intn(4) == 0 {
				layer.Goods = append(layer.Goods, api.Amount{Unit: unit, N: pick(r, 1, 7, 1000000000)})
			}
		}
		t.Layers = append(t.Layers, layer)
	}
	return t
}

// copyThing returns a thing in new memory.
func copyThing(t api.Thing) api.Thing {
	t.Layers = slices.Clone(t.Layers)
	for i := range t.Layers {
		x := &t.Layers[i]
		x.Goods, x.Pieces = slices.Clone(x.Goods), slices.Clone(x.Pieces)
		for j := range x.Pieces {
			x.Pieces[j] = copyPiece(x.Pieces[j])
		}
	}
	return t
}

func copyPiece(x api.Piece) api.Piece {
	x.Cells = slices.Clone(x.Cells)
	for i := range x.Cells {
		x.Cells[i].Alts = slices.Clone(x.Cells[i].Alts)
	}
	return x
}

// spoiltThing returns a thing of which a field or two have any values.
func spoiltThing(r *rand.Rand, t api.Thing) api.Thing {
	t = copyThing(t)
	for range 1 + r.Intn(2) {
		x := &api.Layer{}
		if len(t.Layers) > 0 {
			x = &t.Layers[r.Intn(len(t.Layers))]
		}
		piece, good := &api.Piece{}, &api.Amount{}
		if len(x.Pieces) > 0 {
			piece = &x.Pieces[r.Intn(len(x.Pieces))]
		}
		if len(x.Goods) > 0 {
			good = &x.Goods[r.Intn(len(x.Goods))]
		}
		switch r.Intn(10) {
		case 0:
			t.Id = pick(r, append(extremes(), 1000000, 1000001)...)
		case 1:
			t.Day = pick(r, extremes()...)
		case 2:
			t.Layers = append(t.Layers, make([]api.Layer, r.Intn(3))...)
		case 3:
			t.Layers = t.Layers[:r.Intn(len(t.Layers)+1)]
		case 4:
			x.Pieces = append(x.Pieces, slices.Repeat([]api.Piece{{Kind: 1}}, r.Intn(7))...)
		case 5:
			x.Goods = append(x.Goods, slices.Repeat([]api.Amount{{Unit: "zinc", N: 1}}, r.Intn(7))...)
		case 6:
			piece.Kind = uint8(pick(r, 0, 1, 6, 7, 255))
		case 7:
			piece.Cells = pick(r, make([]api.Cell, 1), make([]api.Cell, 33), slices.Repeat([]api.Cell{{Alts: []api.Alt{{Letters: "a"}}}}, pick(r, 32, 33)), []api.Cell{{Alts: []api.Alt{{Letters: "A"}}}})
		case 8:
			good.Unit = pick(r, "", "A", " a", "a", "crown", "zz", strings.Repeat("q", 24), strings.Repeat("q", 25))
		case 9:
			good.N = pick(r, append(extremes(), 1000000000, 1000000001)...)
		}
	}
	return t
}

// randomSeal returns a seal that is valid for a thing.
func randomSeal(r *rand.Rand, t api.Thing) api.Seal {
	s := api.Seal{Thing: t.Id, Opened: r.Intn(len(t.Layers) + 1)}
	for room := 1; room <= 8; room++ {
		var looks []api.Look
		for _, l := range allLooks(t) {
			if l.Layer <= s.Opened && r.Intn(3) == 0 {
				looks = append(looks, l)
			}
		}
		if len(looks) > 0 && r.Intn(2) == 0 {
			s.Rooms = append(s.Rooms, api.Shown{Room: room, Looks: looks})
		}
	}
	return s
}

// copySeal returns a seal in new memory.
func copySeal(s api.Seal) api.Seal {
	s.Rooms = slices.Clone(s.Rooms)
	for i := range s.Rooms {
		s.Rooms[i].Looks = slices.Clone(s.Rooms[i].Looks)
	}
	return s
}

// spoiltSeal returns a seal of which a field or two have any values.
func spoiltSeal(r *rand.Rand, s api.Seal) api.Seal {
	s = copySeal(s)
	for range 1 + r.Intn(2) {
		x, l := &api.Shown{}, &api.Look{}
		if len(s.Rooms) > 0 {
			x = &s.Rooms[r.Intn(len(s.Rooms))]
		}
		if len(x.Looks) > 0 {
			l = &x.Looks[r.Intn(len(x.Looks))]
		}
		switch r.Intn(9) {
		case 0:
			s.Thing = pick(r, extremes()...)
		case 1:
			s.Opened = pick(r, extremes()...)
		case 2:
			x.Room = pick(r, extremes()...)
		case 3:
			l.Layer = pick(r, extremes()...)
		case 4:
			l.Piece = pick(r, extremes()...)
		case 5:
			x.Looks = append(x.Looks, *l)
		case 6:
			x.Looks = x.Looks[:r.Intn(len(x.Looks)+1)]
		case 7:
			s.Rooms = append(s.Rooms, api.Shown{Room: 1 + r.Intn(8), Looks: slices.Clone(x.Looks)})
		case 8:
			slices.Reverse(s.Rooms)
		}
	}
	return s
}

// scene is arguments of the functions on looks.
type scene struct {
	thing  api.Thing
	seal   api.Seal
	policy api.Policy
	fact   api.Fact
}

// scenes calls a test with many scenes, most of them without an error, and shows the scene if the test fails.
func scenes(t *testing.T, seed int64, n int, try func(x scene, r *rand.Rand)) {
	t.Helper()
	r := rand.New(rand.NewSource(seed))
	var policies []api.Policy
	for range 20 {
		p, _, e := seals.Compile(randomRules(r, 8, 99))
		if e == api.OK {
			policies = append(policies, p)
		}
		policies = append(policies, randomPolicy(r))
	}
	for range n {
		thing := randomThing(r)
		x := scene{thing, randomSeal(r, thing), pick(r, policies...), randomFact(r)}
		x.fact.Layer = pick(r, 0, 1, 2, 3, 4, math.MinInt)
		switch r.Intn(20) {
		case 0:
			x.thing = spoiltThing(r, thing)
		case 1:
			x.seal = spoiltSeal(r, x.seal)
		case 2:
			x.policy = spoiltPolicy(r, x.policy)
		case 3:
			x.fact = spoiltFact(r)
		case 4:
			x.thing, x.policy, x.fact = spoiltThing(r, thing), spoiltPolicy(r, x.policy), spoiltFact(r)
		case 5:
			x.seal, x.fact = spoiltSeal(r, x.seal), spoiltFact(r)
		}
		func() {
			defer func() {
				if t.Failed() {
					t.Logf("the thing %+v, the seal %+v, the fact %+v", x.thing, x.seal, x.fact)
				}
			}()
			try(x, r)
		}()
	}
}

// randomLook returns a look that is mostly one of the thing.
func randomLook(r *rand.Rand, t api.Thing) api.Look {
	if looks := allLooks(t); len(looks) > 0 && r.Intn(5) > 0 {
		return pick(r, looks...)
	}
	return api.Look{Layer: pick(r, extremes()...), Piece: pick(r, extremes()...)}
}
