package court_test

import (
	"fmt"
	"math"
	"math/rand"
	"slices"
	"strings"
	"testing"

	"restante/api"
	"restante/court"
)

// H12, P8.3: worlds in which only what is right is done.
func TestRightWorlds(t *testing.T) {
	t.Parallel()
	met := map[uint8]int{}
	for seed := range int64(110) {
		w := someWorld(seed, 60)
		same(t, "the journals", errorOf(w.j), api.OK)
		for _, x := range w.items {
			what := fmt.Sprintf("world %d, thing %d", seed, x.thing.Id)
			ruling, e := court.Audit(w.j, x.thing.Id)
			same(t, what, e, api.OK)
			equal(t, what, ruling, plainAudit(w.j, x.thing.Id))
			same(t, what, ruling.Answer, api.AnswerRight)
			story, _ := court.Story(w.j, x.thing.Id)
			for _, ref := range story {
				met[get(w.j, ref).Kind]++
			}
		}
	}
	for kind := uint8(1); kind <= 15; kind++ {
		if met[kind] < 8 && (kind < 11 || kind == 15) {
			t.Errorf("only %d records of the kind %d", met[kind], kind)
		}
	}
}

// spoiltWorld returns journals in which one or two records are wrong, but which are journals.
func spoiltWorld(r *rand.Rand, j [][]api.Record) [][]api.Record {
	for {
		k := copied(j)
		for range 1 + r.Intn(2) {
			spoilJournal(r, k)
		}
		if errorOf(numbered(k)) == api.OK {
			return k
		}
	}
}

func spoilJournal(r *rand.Rand, j [][]api.Record) {
	q := r.Intn(len(j))
	n := len(j[q])
	if n == 0 {
		return
	}
	i := r.Intn(n)
	for range 30 {
		if j[q][i].Thing > 0 || r.Intn(9) == 0 {
			break
		}
		i = r.Intn(n)
	}
	switch x := &j[q][i]; r.Intn(11) {
	case 0:
		j[q] = slices.Delete(j[q], i, i+1)
	case 1:
		j[q] = slices.Insert(j[q], i, copied(*x))
	case 2:
		*x = spoilt(r, *x)
	case 3:
		spoilFields(r, x)
	case 4:
		if i > 0 {
			day := x.Day
			j[q][i], j[q][i-1] = j[q][i-1], j[q][i]
			j[q][i].Day, j[q][i-1].Day = day, j[q][i].Day
		}
	case 5:
		y := randomRecord(r, pick[uint8](r, 1, 7, 9, 10, 13, 14, 14))
		y.Thing, y.Day = x.Thing, x.Day
		if y.Room > 0 {
			y.Room = max(1, x.Room)
		}
		y.N = min(y.N, 3)
		j[q] = slices.Insert(j[q], i+r.Intn(2), y)
	case 6:
		for k := range j[q] {
			if j[q][k].Kind == api.RecBook && r.Intn(6) == 0 {
				j[q][k].Text = pick(r, "place 0 found 1 0 v", "spell 1 a/a", someLine(r, j[q][k].Day))
				break
			}
			if j[q][k].Kind == api.RecRules && r.Intn(3) == 0 {
				j[q][k].Text = pick(r, sources()...)
				break
			}
		}
	case 7:
		spoilLook(r, j)
	case 8:
		by := pick(r, -2, -1, 1)
		for k := range j[q] {
			j[q][k].Day = max(0, j[q][k].Day+by)
		}
	case 9:
		if x.Kind == api.RecArrive {
			x.N = x.Day + pick(r, -1, 0, 1)
		}
	case 10:
		*x = api.Record{Day: x.Day, Kind: api.RecKeep, Room: max(1, x.Room), Thing: max(1, x.Thing)}
	}
}

// spoilLook makes a look one at another piece of the thing.
func spoilLook(r *rand.Rand, j [][]api.Record) {
	dockets := map[int][]string{}
	var looks []*api.Record
	for _, l := range j {
		for i := range l {
			if l[i].Kind == api.RecArrive {
				dockets[l[i].Thing] = strings.Split(strings.TrimSuffix(l[i].Text, "/"), "/")
			}
			if l[i].Kind == api.RecLook {
				looks = append(looks, &l[i])
			}
		}
	}
	if len(looks) == 0 {
		return
	}
	x := pick(r, looks...)
	layers := dockets[x.Thing]
	x.Look = api.Look{Layer: 1 + r.Intn(3), Piece: r.Intn(3)}
	x.Fact.Layer = x.Look.Layer
	if x.Look.Layer <= len(layers) && x.Look.Piece < len(layers[x.Look.Layer-1]) && r.Intn(4) > 0 {
		x.Piece.Kind = layers[x.Look.Layer-1][x.Look.Piece] - '0'
	}
}

// spoilFields changes a field of a record so that it may still be right.
func spoilFields(r *rand.Rand, x *api.Record) {
	switch r.Intn(12) {
	case 0:
		x.Room = 1 + r.Intn(3)
	case 1:
		x.Thing = 1 + r.Intn(4)
	case 2:
		x.Person = 1 + r.Intn(4)
	case 3:
		x.Place = 1 + r.Intn(4)
	case 4:
		x.N = 1 + r.Intn(3)
	case 5:
		x.Fact.Claim = !x.Fact.Claim
	case 6:
		x.Fact.To = uint8(r.Intn(3))
	case 7:
		x.Look = api.Look{Layer: 1 + r.Intn(3), Piece: r.Intn(3)}
		x.Fact.Layer = x.Look.Layer
	case 8:
		x.Piece.Kind = uint8(1 + r.Intn(6))
	case 9:
		x.Piece.Cells = cellsOf(pick(r, "ann lee", "ayton", "x"))
	case 10:
		x.Verdict = uint8(1 + r.Intn(5))
	case 11:
		x.Day += pick(r, -1, 1)
	}
}

// H12: worlds in which something is wrong.
func TestSpoiltWorlds(t *testing.T) {
	t.Parallel()
	met := map[uint8]int{}
	for seed := range int64(110) {
		w := someWorld(seed, 30+int(seed%40))
		r := rand.New(rand.NewSource(seed))
		for range 5 {
			j := spoiltWorld(r, w.j)
			for thing := range len(w.items) + 2 {
				ruling, e := court.Audit(j, thing)
				same(t, "Audit", e, api.OK)
				equal(t, fmt.Sprintf("world %d, thing %d", seed, thing), ruling, plainAudit(j, thing))
				met[ruling.What]++
			}
		}
	}
	for what := uint8(0); what <= 11; what++ {
		if met[what] < 5 && what != api.BreachSealed {
			t.Errorf("only %d breaches of the kind %d", met[what], what)
		}
	}
}

// H12: journals of any records.
func TestAuditOfWildJournals(t *testing.T) {
	met := map[uint8]int{}
	for seed := range int64(2000) {
		r := rand.New(rand.NewSource(seed))
		j := wildJournals(r, 1+r.Intn(3), r.Intn(16))
		for _, thing := range []int{1, 2, 3, 0, -1, 1000000, 1000001, math.MinInt, math.MaxInt} {
			ruling, e := court.Audit(j, thing)
			same(t, "Audit", e, api.OK)
			equal(t, fmt.Sprintf("journals %d, thing %d", seed, thing), ruling, plainAudit(j, thing))
			met[ruling.Answer]++
		}
	}
	if met[api.AnswerBreach] < 1000 || met[api.AnswerNothing] < 1000 {
		t.Error("answers", met)
	}
}
