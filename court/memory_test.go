package court_test

import (
	"fmt"
	"math/rand"
	"reflect"
	"testing"

	"restante/api"
	"restante/court"
)

// area is the memory behind a slice.
type area struct{ from, to uintptr }

// areasOf returns the memory behind all slices in a value, up to their capacities.
func areasOf(v reflect.Value) []area {
	var list []area
	switch v.Kind() {
	case reflect.Slice:
		if v.Cap() == 0 || v.Type().Elem().Size() == 0 {
			return nil
		}
		from := v.Pointer()
		list = append(list, area{from, from + uintptr(v.Cap())*v.Type().Elem().Size()})
		for i := range v.Len() {
			list = append(list, areasOf(v.Index(i))...)
		}
	case reflect.Struct:
		for i := range v.NumField() {
			list = append(list, areasOf(v.Field(i))...)
		}
	case reflect.Interface:
		return areasOf(v.Elem())
	}
	return list
}

// whole returns a text of a value in which all slices reach as far as their memory does.
func whole(v reflect.Value) string {
	text := ""
	switch v.Kind() {
	case reflect.Slice:
		for i := range v.Cap() {
			text += whole(v.Slice(0, v.Cap()).Index(i)) + ","
		}
	case reflect.Struct:
		for i := range v.NumField() {
			text += whole(v.Field(i)) + ";"
		}
	case reflect.Interface:
		return whole(v.Elem())
	default:
		return fmt.Sprint(v)
	}
	return "{" + text + "}"
}

// given is arguments, as they were before some calls.
type given struct {
	arguments []any
	before    string
	areas     []area
}

func give(arguments ...any) given {
	v := reflect.ValueOf(arguments)
	return given{arguments, whole(v), areasOf(v)}
}

// check fails if the arguments were changed, or two slices in the results share memory with each other or with the arguments.
func (g given) check(t *testing.T, what string, results ...any) {
	t.Helper()
	same(t, what+": the arguments", whole(reflect.ValueOf(g.arguments)), g.before)
	got := areasOf(reflect.ValueOf(results)) // the first one is that of the list of results
	for i, a := range got {
		for _, b := range append(g.areas, got[:i]...) {
			if a.from < b.to && b.from < a.to {
				t.Fatalf("%s: slices share memory", what)
			}
		}
	}
}

// R3: what is made of records, digests and lines is new memory.
func TestMemoryOfRecords(t *testing.T) {
	eachRecord(func(r *rand.Rand, x api.Record) {
		if r.Intn(4) > 0 {
			return
		}
		x = roomy(x)
		keep := roomy(someFields(r))
		g := give(x, keep)
		text, e := court.PutRecord(x)
		same(t, "PutRecord", e, api.OK)
		fields := court.Fields(x)
		redacted, e := court.Redact(x, keep)
		court.Digest(x)
		g.check(t, "a record", fields, redacted)
		back, e := court.GetRecord(text)
		g.check(t, "GetRecord", back)
		fields, redacted = roomy(fields), roomy(redacted)
		g = give(fields, redacted)
		back, e = court.Read(fields)
		court.DigestOf(redacted)
		g.check(t, "fields", back)
	})
	l := roomy(hashes(21))
	g := give(l)
	path, _ := court.Prove(l, 5)
	growth, _ := court.Grown(l, 7)
	part, _ := court.Grown(l, 20)
	court.CheckProof(l[5], 5, 21, path, court.Root(l))
	g.check(t, "digests", path, growth, part)
	one, two := roomy(path), roomy(growth)
	g = give(one, two)
	same(t, "CheckProof", court.CheckProof(l[5], 5, 21, one, court.Root(l)), true)
	same(t, "CheckGrown", court.CheckGrown(7, 21, court.Root(l[:7]), court.Root(l), two), true)
	g.check(t, "proofs")
	b := roomy(enter(t, api.Books{}, firstLines()...))
	g = give(b)
	for _, line := range []string{"place 1 rename 1 a", "spell 2 v/f", "people 0 name 9 0 0 z", "people 0 name 0 0 0 z", "place 0 move 9 9"} {
		more, _ := court.Enter(b, line)
		g.check(t, "Enter "+line, more)
	}
}

// R3: what is made of journals and bundles is new memory.
func TestMemoryOfJournals(t *testing.T) {
	for seed := range int64(12) {
		j := roomy(withClaims(rand.New(rand.NewSource(seed)), someWorld(seed, 40).j))
		g := give(j)
		books, _, _ := court.Books(j[0])
		policy, _ := court.Policy(j[0])
		court.Pending(j[0], 1)
		refs, _ := court.Join(j)
		story, _ := court.Story(j, 1)
		ruling, _ := court.Audit(j, 1)
		court.Party(j, 1, 1)
		g.check(t, "journals", books, policy, refs, story, ruling)
		for _, c := range claimsIn(j) {
			answer, _ := court.Answer(j, c)
			fields, e := court.May(j, c, refs[0])
			same(t, "May", e, api.OK)
			b, _ := court.Bundle(j, c)
			g.check(t, "a claim", answer, fields, b)
			b = roomy(b)
			roots := roomy(b.Roots)
			h := give(b, roots)
			shown, _ := court.CheckBundle(b, roots)
			told := court.Told(b)
			back, _ := court.Parse(court.Print(b))
			h.check(t, "a bundle", shown, told, back)
			if seed > 2 {
				break
			}
		}
	}
}

// R2, R3: what is refused is not changed either, and nothing is kept of it: the same call has the same result again.
func TestErrorsChangeNothing(t *testing.T) {
	eachRecord(func(r *rand.Rand, x api.Record) {
		if r.Intn(4) > 0 {
			return
		}
		redacted, _ := court.Redact(x, someFields(r))
		x, fields, y, keep := roomy(spoilt(r, x)), roomy(spoilt(r, court.Fields(x))), roomy(spoilt(r, redacted)), roomy(spoilt(r, someFields(r)))
		g := give(x, fields, y, keep)
		call := func() string {
			var l []any
			text, e := court.PutRecord(x)
			l = append(l, text, e, court.Fields(x), court.Digest(x))
			back, e := court.Read(fields)
			l = append(l, back, e)
			z, e := court.Redact(x, keep)
			l = append(l, z, e)
			digest, e := court.DigestOf(y)
			return fmt.Sprint(append(l, digest, e)...)
		}
		same(t, "the same calls again", call(), call())
		g.check(t, "spoilt records")
	})
	for seed := range int64(40) {
		r := rand.New(rand.NewSource(seed))
		right := withClaims(r, someWorld(seed, 30).j)
		c := claimsIn(right)[0]
		b, _ := court.Bundle(right, c)
		j, d, b := roomy(spoilt(r, right)), spoilt(r, c), roomy(spoilt(r, b))
		roots := roomy(spoilt(r, b.Roots))
		g := give(j, b, roots)
		call := func() string {
			var l []any
			for _, x := range []api.Claim{c, d} {
				answer, e := court.Answer(j, x)
				l = append(l, answer, e)
				fields, e := court.May(j, x, api.Ref{})
				l = append(l, fields, e)
				more, e := court.Bundle(j, x)
				l = append(l, more, e)
				party, e := court.Party(j, x.Person, x.Thing)
				l = append(l, party, e)
			}
			refs, e := court.Join(j)
			l = append(l, refs, e)
			story, e := court.Story(j, 1)
			l = append(l, story, e)
			ruling, e := court.Audit(j, 1)
			l = append(l, ruling, e)
			shown, e := court.CheckBundle(b, roots)
			return fmt.Sprint(append(l, shown, e, court.Told(b), court.Print(b))...)
		}
		same(t, "the same calls again", call(), call())
		g.check(t, "spoilt journals and bundles")
	}
}
