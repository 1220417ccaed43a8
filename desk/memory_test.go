package desk_test

import (
	"fmt"
	"math/rand"
	"reflect"
	"testing"

	"restante/api"
	"restante/desk"
)

// area is the memory behind a slice.
type area struct{ from, to uintptr }

// areasOf returns the memory behind all slices in a value, up to their capacities.
func areasOf(v reflect.Value) []area {
	var list []area
	switch v.Kind() {
	case reflect.Slice:
		if v.Cap() == 0 || v.Type().Elem().Size() == 0 {
			return nil
		}
		from := v.Pointer()
		list = append(list, area{from, from + uintptr(v.Cap())*v.Type().Elem().Size()})
		for i := range v.Len() {
			list = append(list, areasOf(v.Index(i))...)
		}
	case reflect.Struct:
		for i := range v.NumField() {
			list = append(list, areasOf(v.Field(i))...)
		}
	case reflect.Interface:
		return areasOf(v.Elem())
	}
	return list
}

// separate fails if two slices in some values share memory.
func separate(t *testing.T, what string, values ...any) {
	t.Helper()
	areas := areasOf(reflect.ValueOf(values))
	for i, a := range areas {
		for _, b := range areas[:i] {
			if a.from < b.to && b.from < a.to {
				t.Fatalf("%s: slices share memory", what)
			}
		}
	}
}

// scribble changes everything in a value that can be changed, up to the capacities of its slices.
func scribble(v reflect.Value) {
	switch v.Kind() {
	case reflect.Interface, reflect.Pointer:
		scribble(v.Elem())
	case reflect.Slice:
		v = v.Slice(0, v.Cap())
		for i := range v.Len() {
			scribble(v.Index(i))
		}
	case reflect.Struct:
		for i := range v.NumField() {
			scribble(v.Field(i))
		}
	}
	if !v.CanSet() {
		return
	}
	switch v.Kind() {
	case reflect.Int:
		v.SetInt(v.Int() + 1)
	case reflect.Uint8:
		v.SetUint(uint64(uint8(v.Uint() + 1)))
	case reflect.Bool:
		v.SetBool(!v.Bool())
	case reflect.String:
		v.SetString(v.String() + "x")
	}
}

// roomy returns a copy of a value in which all slices have more memory than they need.
func roomy[T any](x T) T { return roomyValue(reflect.ValueOf(x)).Interface().(T) }

func roomyValue(v reflect.Value) reflect.Value {
	to := reflect.New(v.Type()).Elem()
	to.Set(v)
	switch v.Kind() {
	case reflect.Slice:
		to.Set(reflect.MakeSlice(v.Type(), v.Len(), v.Len()+3))
		for i := range v.Len() {
			to.Index(i).Set(roomyValue(v.Index(i)))
		}
	case reflect.Struct:
		for i := range v.NumField() {
			to.Field(i).Set(roomyValue(v.Field(i)))
		}
	}
	return to
}

// whole returns a text of a value in which all slices reach as far as their memory does.
func whole(v reflect.Value) string {
	text := ""
	switch v.Kind() {
	case reflect.Slice:
		for i := range v.Cap() {
			text += whole(v.Slice(0, v.Cap()).Index(i)) + ","
		}
	case reflect.Struct:
		for i := range v.NumField() {
			text += whole(v.Field(i)) + ";"
		}
	case reflect.Interface:
		return whole(v.Elem())
	default:
		return fmt.Sprint(v)
	}
	return "{" + text + "}"
}

// results returns what all questions about a desk return.
func results(t *testing.T, d *desk.Desk) []any {
	t.Helper()
	var list []any
	for q := range 2 {
		list = append(list, d.Journal(q), d.Things(q), d.Trial(q))
		for room := 1; room <= 3; room++ {
			views, e := d.Show(q, room)
			same(t, "Show", e, api.OK)
			list = append(list, views)
		}
	}
	list = append(list, d.Roots())
	for id := 7; id <= 9; id++ {
		ruling, e := d.Audit(id)
		same(t, "Audit", e, api.OK)
		list = append(list, ruling)
	}
	return list
}

// R3: results are new memory: whatever is written there, the desk stays as it is.
func TestMemoryOfResults(t *testing.T) {
	t.Parallel()
	d := furnished(t, 2, openRules)
	last := ""
	look := func(what string, more ...any) {
		t.Helper()
		list := append(results(t, d), more...)
		separate(t, what, append(results(t, d), list...)...)
		before := fmt.Sprintf("%+v", results(t, d))
		scribble(reflect.ValueOf(list))
		last = fmt.Sprintf("%+v", results(t, d))
		same(t, what, last, before)
	}
	for id := 7; id <= 8; id++ {
		x := roomy(letter(id, "ann lee", "ay(t|f:2)on"))
		before := whole(reflect.ValueOf(x))
		same(t, "Arrive", d.Arrive(0, 1, x), api.OK)
		same(t, "the thing", whole(reflect.ValueOf(x)), before)
		scribble(reflect.ValueOf(&x))
	}
	look("Arrive")
	for range 2 {
		v, e := d.Work(0, 7)
		same(t, "Work", e, api.OK)
		look("Work", v)
	}
	same(t, "Ship", d.Ship(0, 7, 1), api.OK)
	same(t, "Offer", d.Offer(0), api.OK)
	same(t, "Carry", d.Carry(0, 1, 0), api.OK)
	same(t, "Unpack", d.Unpack(1, 7, 3), api.OK)
	look("a bag")
	d.Advance(50)
	v, e := d.Work(1, 7)
	same(t, "Work", e, api.OK)
	same(t, "Work", v.Kind, api.VerDeliver)
	look("a delivery", v)
	n, e := d.Claim(1, 1, 7, 1)
	same(t, "Claim", e, api.OK)
	b, e := d.Answer(1, n)
	same(t, "Answer", e, api.OK)
	separate(t, "Answer", b)
	look("Answer", b)
	sums, e := d.Refund(1, 7, 1)
	same(t, "Refund", e, api.OK)
	same(t, "Refund", len(sums), 1)
	look("Refund", sums)
	keep := roomy([]int{5, -1, 64})
	before := whole(reflect.ValueOf(keep))
	same(t, "Crash", d.Crash(1, keep), api.OK)
	same(t, "the argument", whole(reflect.ValueOf(keep)), before)
	same(t, "a crash", fmt.Sprintf("%+v", results(t, d)), last)
}

// R4: the same calls on two desks return the same, whatever other desks do meanwhile.
func TestSameCalls(t *testing.T) {
	t.Parallel()
	for seed := range int64(3) {
		c := api.Config{Offices: 2, Sectors: api.MaxSectors, Salt: 5}
		first := newWalker(t, rand.New(rand.NewSource(seed)), c)
		second := newWalker(t, rand.New(rand.NewSource(seed)), c)
		other := newWalker(t, rand.New(rand.NewSource(seed+100)), c)
		for _, w := range []*walker{first, second, other} {
			w.quiet = true
			w.furnish()
		}
		for range 80 {
			first.step()
			other.step()
			second.step()
		}
		equal(t, "the calls", second.log, first.log)
		same(t, "the desks", questions(second.d, 2, second.ids...), questions(first.d, 2, first.ids...))
	}
}
