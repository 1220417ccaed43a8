package desk_test

import (
	"fmt"
	"math"
	"math/rand"
	"reflect"
	"testing"

	"restante/api"
	"restante/desk"
	"restante/reading"
)

func pick[T any](r *rand.Rand, list ...T) T { return list[r.Intn(len(list))] }

func same[T comparable](t *testing.T, what string, got, want T) {
	t.Helper()
	if got != want {
		t.Fatalf("%s: got %v, want %v", what, got, want)
	}
}

// equal compares results by their texts, which are the same for nil and empty slices.
func equal(t *testing.T, what string, got, want any) {
	t.Helper()
	if g, w := fmt.Sprintf("%+v", got), fmt.Sprintf("%+v", want); g != w {
		t.Fatalf("%s: got %s, want %s", what, g, w)
	}
}

// fails compares an error, behind which the other results have to be zero.
func fails(t *testing.T, what string, e, want api.Errno, results ...any) {
	t.Helper()
	same(t, what, e, want)
	for _, x := range results {
		if !isZero(reflect.ValueOf(x)) {
			t.Fatalf("%s: %v with the result %+v", what, e, x)
		}
	}
}

// isZero reports whether a value is zero, where empty slices are.
func isZero(v reflect.Value) bool {
	switch v.Kind() {
	case reflect.Slice:
		return v.Len() == 0
	case reflect.Struct:
		for i := range v.NumField() {
			if !isZero(v.Field(i)) {
				return false
			}
		}
		return true
	}
	return v.IsZero()
}

// extremes are numbers that few arguments may have.
func extremes() []int {
	return []int{math.MinInt, math.MinInt + 1, -1000001, -2, -1, 9, 100, 100001, 1000001, 1 << 32, math.MaxInt - 1, math.MaxInt}
}

func cellsOf(s string) []api.Cell {
	cells, e := reading.Parse(s)
	if e != api.OK {
		panic(s)
	}
	return cells
}

// piece returns a piece with a text.
func piece(kind uint8, text string) api.Piece { return api.Piece{Kind: kind, Cells: cellsOf(text)} }

// must returns a desk.
func must(t *testing.T, offices, sectors, salt int) *desk.Desk {
	t.Helper()
	d, e := desk.New(api.Config{Offices: offices, Sectors: sectors, Salt: salt})
	same(t, "New", e, api.OK)
	return d
}

// openRules are rules that allow everything.
const openRules = "weights 0 20 60\nrule all rank 1: open any if always\n"

// firstLines are the books with which the offices begin.
func firstLines() []string {
	return []string{"place 0 found 1 0 north", "place 0 found 2 1 ayton", "place 0 found 3 1 ayford", "place 0 found 4 0 south",
		"people 0 name 1 0 0 ann lee", "people 0 live 1 2 0 0", "people 0 name 2 0 0 ann lee", "people 0 live 2 3 0 0", "people 0 name 3 0 0 bob lee", "people 0 live 3 2 0 0", "people 0 name 4 0 0 cat", "people 0 live 4 4 0 0"}
}

// furnished returns a desk whose offices know rules, books and units.
func furnished(t *testing.T, offices int, rules string) *desk.Desk {
	t.Helper()
	d := must(t, offices, api.MaxSectors, 0)
	for q := range offices {
		furnish(t, d, q, rules)
	}
	return d
}

func furnish(t *testing.T, d *desk.Desk, office int, rules string) {
	t.Helper()
	same(t, "Rules", d.Rules(office, rules), api.OK)
	for _, line := range firstLines() {
		same(t, line, d.Publish(office, line), api.OK)
	}
	for _, line := range []string{"unit crown 1", "value crown 240", "term crown 1 30", "unit mark 1", "value mark 160", "unit ring 3"} {
		same(t, line, d.Money(office, line), api.OK)
	}
}

// letter returns a thing with a name on its cover, a place in its enclosure, and crowns and a ring there.
func letter(id int, name, place string) api.Thing {
	return api.Thing{Id: id, Layers: []api.Layer{
		{Pieces: []api.Piece{piece(api.PieceToName, name)}},
		{Pieces: []api.Piece{piece(api.PieceToPlace, place)}, Goods: []api.Amount{{Unit: "crown", N: 5}, {Unit: "ring", N: 1}}},
	}}
}

// questions returns a text of what all questions about a desk return.
func questions(d *desk.Desk, offices int, things ...int) string {
	var list []any
	for q := range offices {
		list = append(list, "\noffice", q, d.Things(q), d.Journal(q), d.Trial(q))
		for room := 1; room <= api.MaxRooms; room++ {
			views, e := d.Show(q, room)
			list = append(list, views, e)
		}
	}
	for _, x := range things {
		list = append(list, "\nthing", x, d.Where(x))
	}
	return fmt.Sprintf("%+v", list)
}
