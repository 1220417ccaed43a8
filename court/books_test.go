package court_test

import (
	"fmt"
	"math/rand"
	"regexp"
	"slices"
	"strconv"
	"strings"
	"testing"

	"restante/api"
	"restante/court"
	"restante/people"
	"restante/places"
	"restante/seals"
)

var spellLine = regexp.MustCompile(`\Aspell (0|[1-9][0-9]{0,8}) ([a-z0-9 -]{1,3})/([a-z0-9 -]{1,3})\z`)

// plainEnter follows H3.
func plainEnter(b api.Books, line string) (api.Books, api.Errno) {
	b = copied(b)
	if rest, ok := strings.CutPrefix(line, "place "); ok {
		x, e := places.Read(rest)
		if e != api.OK {
			return api.Books{}, api.ErrForm
		}
		b.Places = append(b.Places, x)
	} else if rest, ok := strings.CutPrefix(line, "people "); ok {
		x, e := people.Read(rest)
		if e != api.OK {
			return api.Books{}, api.ErrForm
		}
		b.People = append(b.People, x)
	} else if parts := spellLine.FindStringSubmatch(line); parts != nil {
		cost, _ := strconv.Atoi(parts[1])
		b.Spells = append(b.Spells, api.Spell{From: parts[2], To: parts[3], Cost: cost})
	} else {
		return api.Books{}, api.ErrForm
	}
	if _, _, e := places.Open(b.Places); e != api.OK {
		return api.Books{}, e
	}
	if e := places.CheckSpells(b.Spells); e != api.OK {
		return api.Books{}, e
	}
	if _, e := people.Check(b.People); e != api.OK {
		return api.Books{}, e
	}
	for _, x := range b.People {
		if x.Kind == api.EntryName {
			if _, e := places.Spelled(x.Name, b.Spells); e != api.OK {
				return api.Books{}, e
			}
		}
	}
	for _, x := range b.Places {
		if x.Kind == api.PlaceFound || x.Kind == api.PlaceRename || x.Kind == api.PlaceAlias {
			if _, e := places.Spelled(x.Name, b.Spells); e != api.OK {
				return api.Books{}, e
			}
		}
	}
	return b, api.OK
}

func enter(t *testing.T, b api.Books, lines ...string) api.Books {
	t.Helper()
	for _, line := range lines {
		more, e := court.Enter(b, line)
		same(t, "Enter "+line, e, api.OK)
		b = more
	}
	return b
}

// long is a name that has 24 matches of each rule for its letter.
var long = strings.Repeat("a", 24)

func randomLine(r *rand.Rand) string {
	n := func(most int) int { return r.Intn(most + 1) }
	name := func() string { return pick(r, "ayton", "ayford", "north", "ann lee", "bob lee", "v", long, long) }
	switch day := pick(r, 0, 0, 0, 0, 1, 2, 5); r.Intn(14) {
	case 0, 1:
		return fmt.Sprintf("place %d found %d %d %s", day, 1+n(3), n(3), name())
	case 2:
		return fmt.Sprintf("place %d rename %d %s", day, 1+n(3), name())
	case 3:
		return fmt.Sprintf("place %d move %d %d", day, 1+n(3), n(5))
	case 4:
		return fmt.Sprintf("place %d merge %d %d", day, 1+n(3), 1+n(3))
	case 5:
		return fmt.Sprintf("place %d alias %d %s", day, 1+n(3), name())
	case 6, 7:
		return fmt.Sprintf("spell %d %s/%s", pick(r, 0, 1, 2, 3, 1000, 1000, 1001, 999999999, 1000000000), pick(r, "a", "a", "a", "a", "v", "b", " ", "-", "aa", "abc", "abcd", ""), pick(r, "c", "f", "a", "b", "d", "e", " ", "0", "xyz", "vwxy"))
	case 8, 9, 10:
		return fmt.Sprintf("people %d name %d 0 0 %s", day, 1+n(3), name())
	case 11:
		return fmt.Sprintf("people %d live %d %d 0 0", day, 1+n(3), 1+n(3))
	case 12:
		return fmt.Sprintf("people %d death %d %d", day, 1+n(3), day)
	}
	return spoiltText(r, pick(r, "place 0 found 1 0 v", "spell 2 v/f", "spell 10 a/b/c", "people 0 name 1 0 0 v", "place", "people ", "spell 2", ""))
}

// H3: Enter and Books, line by line, also with errors.
func TestBooksLikeTheirOracle(t *testing.T) {
	t.Parallel()
	met := map[api.Errno]int{}
	for seed := range int64(1000) {
		r := rand.New(rand.NewSource(seed))
		var l []api.Record
		var b api.Books
		start := []string{"place 0 found 1 0 north", "place 0 found 2 1 ayton", "people 0 name 1 0 0 ann lee", "people 0 name 2 0 0 bob lee", "spell 0 a/x", "spell 0 a/y", "spell 0 a/z", "place 0 found 3 2 ayford", "spell 0 a/w"}
		for i := range 5 + r.Intn(40) {
			line := randomLine(r)
			if i < len(start) && r.Intn(4) > 0 {
				line = start[i]
			}
			want, e := plainEnter(b, line)
			got, g := court.Enter(b, line)
			same(t, "Enter "+line, g, e)
			met[e]++
			if e != api.OK {
				fails(t, "Enter "+line, g, e, got)
				at := len(l)
				l = append(l, api.Record{Kind: api.RecBook, Text: line})
				got, i, g := court.Books(l)
				fails(t, "Books", g, e, got)
				same(t, "the index in Books", i, at)
				if r.Intn(4) > 0 {
					l = l[:at]
					continue
				}
				got, i, g = court.Books(append(l, api.Record{Kind: api.RecBook, Text: "spell 2 x/y"}, api.Record{Kind: api.RecBook}))
				fails(t, "Books", g, e, got)
				same(t, "the index in Books", i, at)
				break
			}
			equal(t, "Enter "+line, got, want)
			b = got
			if r.Intn(3) == 0 {
				l = append(l, api.Record{Kind: uint8(pick(r, 0, 1, 7, 11, 13, 255)), Text: randomLine(r)})
			}
			l = append(l, api.Record{Kind: api.RecBook, Text: line, Seq: -1, Thing: -5})
			got, i, g := court.Books(l)
			same(t, "Books", g, api.OK)
			same(t, "the index in Books", i, 0)
			equal(t, "Books", got, want)
		}
	}
	for _, e := range []api.Errno{api.OK, api.ErrArg, api.ErrLimit, api.ErrForm, api.ErrNone, api.ErrTwice, api.ErrTime, api.ErrLoop, api.ErrGone} {
		if met[e] < 6 {
			t.Errorf("only %d of the error %d", met[e], e)
		}
	}
}

// H3: the examples, and the forms of lines.
func TestLinesOfBooks(t *testing.T) {
	b := enter(t, api.Books{}, "spell 2 v/f")
	equal(t, "one rule", b, api.Books{Spells: []api.Spell{{From: "v", To: "f", Cost: 2}}})
	for _, x := range []struct {
		line string
		want api.Errno
	}{
		{"", api.ErrForm}, {"place", api.ErrForm}, {"place ", api.ErrForm}, {"people", api.ErrForm}, {"spell", api.ErrForm}, {"Place 0 found 1 0 v", api.ErrForm},
		{" place 0 found 1 0 v", api.ErrForm}, {"place  0 found 1 0 v", api.ErrForm}, {"place 0 found 1 0 v ", api.ErrForm}, {"place 0 found 1 0 v\n", api.ErrForm},
		{"place 3 move 1 2", api.ErrNone}, {"people 0 live 1 2 0 0", api.ErrNone}, {"place 0 found 1 0 v", api.OK}, {"people 0 name 1 0 0 v", api.OK},
		{"places 0 found 1 0 v", api.ErrForm}, {"0 found 1 0 v", api.ErrForm}, {"people 0 found 1 0 v", api.ErrForm}, {"place 0 name 1 0 0 v", api.ErrForm},
		{"spell 0 a/b", api.OK}, {"spell 00 a/b", api.ErrForm}, {"spell 02 a/b", api.ErrForm}, {"spell +2 a/b", api.ErrForm}, {"spell -2 a/b", api.ErrForm}, {"spell a/b", api.ErrForm}, {"spell  a/b", api.ErrForm},
		{"spell 1000 a/b", api.OK}, {"spell 1001 a/b", api.ErrArg}, {"spell 999999999 a/b", api.ErrArg}, {"spell 1000000000 a/b", api.ErrForm}, {"spell 99999999999999999999 a/b", api.ErrForm},
		{"spell 2 /b", api.ErrForm}, {"spell 2 a/", api.ErrForm}, {"spell 2 /", api.ErrForm}, {"spell 2 ab", api.ErrForm}, {"spell 2 a/b/c", api.ErrForm}, {"spell 2 a//", api.ErrForm},
		{"spell 2 abc/def", api.OK}, {"spell 2 abcd/e", api.ErrForm}, {"spell 2 a/bcde", api.ErrForm}, {"spell 2  / -", api.OK}, {"spell 2   a/b", api.OK}, {"spell 2 A/b", api.ErrForm}, {"spell 2 a/b\n", api.ErrForm},
		{"spell 2 a/a", api.ErrArg}, {"spell 3 v/f", api.ErrTwice},
	} {
		got, e := court.Enter(b, x.line)
		same(t, "Enter "+x.line, e, x.want)
		want, e := plainEnter(b, x.line)
		same(t, "the oracle for "+x.line, e, x.want)
		equal(t, "Enter "+x.line, got, want)
	}
}

// H3: the order of the errors, with books that have several.
func TestOrderOfErrorsOfBooks(t *testing.T) {
	deep := []api.PlaceEvent{{Kind: api.PlaceMove, Place: 1, Other: 1}}
	bad := []api.Books{
		{},
		{Places: deep},
		{Spells: []api.Spell{{From: "", To: "a"}}},
		{People: []api.Entry{{Day: -1, Kind: api.EntryName, Person: 1, Name: "a"}}},
		{People: []api.Entry{{Kind: api.EntryLive, Person: 1, Place: 1}}},
		{People: []api.Entry{{Kind: api.EntryName, Person: 1, Name: long}}, Spells: five()},
		{Places: []api.PlaceEvent{{Kind: api.PlaceFound, Place: 1, Name: long}}, Spells: five()},
		{Places: []api.PlaceEvent{{Kind: api.PlaceFound, Place: 1, Name: "b"}, {Kind: api.PlaceAlias, Place: 1, Name: long}}, Spells: five()},
		{Places: []api.PlaceEvent{{Kind: api.PlaceFound, Place: 1, Name: "b"}, {Kind: api.PlaceMove, Place: 1}}, Spells: five()},
	}
	lines := []string{"", "place 0 found 9 0 v", "place 0 found 1 0 v", "place 0 move 8 9", "spell 1 x/y", "spell 1001 x/y", "people 0 name 9 0 0 v", "people 0 name 9 0 0 " + long, "people 0 live 8 1 0 0"}
	for i, a := range bad {
		for _, b := range bad {
			for _, line := range lines {
				books := api.Books{Places: append(copied(a.Places), b.Places...), Spells: append(copied(a.Spells), b.Spells...), People: append(copied(a.People), b.People...)}
				want, e := plainEnter(books, line)
				got, g := court.Enter(books, line)
				same(t, fmt.Sprint("Enter ", line, " into ", i, " ", books), g, e)
				equal(t, "Enter", got, want)
			}
		}
	}
	r := rand.New(rand.NewSource(6))
	right := enter(t, api.Books{}, "place 0 found 1 0 north", "place 1 alias 1 v", "spell 2 v/f", "people 0 name 1 0 0 ann lee", "people 0 live 1 1 0 0")
	for range 3000 {
		books, line := spoilt(r, right), randomLine(r)
		want, e := plainEnter(books, line)
		got, g := court.Enter(books, line)
		same(t, fmt.Sprint("Enter ", line, " into ", books), g, e)
		equal(t, "Enter", got, want)
	}
}

func five() []api.Spell {
	var l []api.Spell
	for _, to := range []string{"b", "c", "d", "e", "f"} {
		l = append(l, api.Spell{From: "a", To: to})
	}
	return l
}

// H3: a name has to be spelled whenever a rule or a name comes in.
func TestSpelledNames(t *testing.T) {
	rules := []string{"spell 0 a/b", "spell 0 a/c", "spell 0 a/d", "spell 0 a/e"}
	for _, line := range []string{"people 0 name 1 0 0 " + long, "place 0 found 1 0 " + long} {
		with := enter(t, enter(t, api.Books{}, line), rules...)
		equal(t, "the order of lines", with, enter(t, enter(t, api.Books{}, rules...), line))
		b, e := court.Enter(with, "spell 0 a/f")
		fails(t, "a fifth rule", e, api.ErrLimit, b)
		b, e = court.Enter(enter(t, enter(t, api.Books{}, rules...), "spell 0 a/f"), line)
		fails(t, "a name behind five rules", e, api.ErrLimit, b)
	}
	both := enter(t, enter(t, api.Books{}, "place 0 found 1 0 b"), append(rules, "spell 0 a/f")...)
	for _, line := range []string{"place 1 rename 1 " + long, "place 1 alias 1 " + long} {
		b, e := court.Enter(both, line)
		fails(t, line, e, api.ErrLimit, b)
	}
}

// H3: books at their limits.
func TestLimitsOfBooks(t *testing.T) {
	var l []api.Record
	add := func(line string) { l = append(l, api.Record{Kind: api.RecBook, Text: line}) }
	for i := range 400 {
		add(fmt.Sprintf("place 0 found %d 0 a", i+1))
		add(fmt.Sprintf("people 0 name %d 0 0 b", i+1))
		if i < 24 {
			add(fmt.Sprintf("spell %d %c/%d", i, 'a'+i, i))
		}
	}
	b, i, e := court.Books(l)
	equal(t, "full books", []any{len(b.Places), len(b.Spells), len(b.People), i, e}, []any{400, 24, 400, 0, api.OK})
	for _, line := range []string{"place 0 found 401 0 a", "people 0 name 401 0 0 b", "spell 0 z/y"} {
		more, i, e := court.Books(append(slices.Clone(l), api.Record{Kind: api.RecBook, Text: line}))
		fails(t, line, e, api.ErrLimit, more)
		same(t, line, i, len(l))
		more, e = court.Enter(b, line)
		fails(t, line, e, api.ErrLimit, more)
	}
	b, i, e = court.Books(nil)
	equal(t, "no records", []any{b, i, e}, []any{api.Books{}, 0, api.OK})
}

// sources are rules, those of which have faults among them.
func sources() []string {
	return []string{"weights 1 2 3", "weights 0 20 60\nrule all rank 1: open any if always\n", "weights 1 2", "", "weights 1001 0 0", "rule all rank 1: open any if always",
		"weights 0 0 0\nrule a rank 1: open any if always\nrule b rank 1: leave 2 if room 3\n", "weights 5 5 5\nrule a rank 1: open 1 if days >= 3\nrule b rank 2: leave any if claim\n", strings.Repeat("#", 4001)}
}

// H4: the policy is that of the last rules, if these have no fault.
func TestPolicy(t *testing.T) {
	r := rand.New(rand.NewSource(7))
	count := map[bool]int{}
	for range 400 {
		var l []api.Record
		for range r.Intn(6) {
			l = append(l, api.Record{Kind: pick(r, api.RecRules, api.RecRules, api.RecBook, 0, 255), Text: pick(r, sources()...), Seq: r.Intn(3)})
		}
		var want api.Policy
		ok := false
		for _, x := range l {
			if x.Kind == api.RecRules {
				rules, fault := seals.Parse(x.Text)
				p, _, e := seals.Compile(rules)
				want, ok = p, fault == api.Fault{} && e == api.OK
			}
		}
		if !ok {
			want = api.Policy{}
		}
		got, g := court.Policy(l)
		same(t, "Policy", g, ok)
		equal(t, "Policy", got, want)
		count[ok]++
	}
	if count[true] < 50 || count[false] < 50 {
		t.Error("policies of one sort", count)
	}
}

// H4: pending claims.
func TestPending(t *testing.T) {
	r := rand.New(rand.NewSource(8))
	count := map[bool]int{}
	for range 3000 {
		var l []api.Record
		for range r.Intn(9) {
			l = append(l, api.Record{Kind: pick(r, api.RecClaim, api.RecClaim, api.RecAnswer, api.RecAnswer, api.RecLook), Thing: pick(r, 1, 1, 2, -1), N: pick(r, 1, 2, 0), Person: r.Intn(3), Verdict: uint8(r.Intn(4)), Office: r.Intn(2)})
		}
		for thing := -1; thing < 4; thing++ {
			want := false
			for i, x := range l {
				answered := slices.ContainsFunc(l[i:], func(y api.Record) bool { return y.Kind == api.RecAnswer && y.Thing == x.Thing && y.N == x.N })
				want = want || x.Kind == api.RecClaim && x.Thing == thing && !answered
			}
			same(t, fmt.Sprint("Pending of ", thing, " in ", l), court.Pending(l, thing), want)
			count[want]++
		}
	}
	if count[true] < 1000 || count[false] < 1000 {
		t.Error("claims of one sort", count)
	}
}
