package places_test

import (
	"cmp"
	"fmt"
	"math"
	"math/rand"
	"slices"
	"strings"
	"testing"

	"restante/api"
	"restante/places"
	"restante/reading"
)

// letters returns rules that write one letter as each of some others.
func letters(from string, to string) []api.Spell {
	var l []api.Spell
	for _, c := range to {
		l = append(l, api.Spell{From: from, To: string(c), Cost: 1})
	}
	return l
}

// The name crowd has 101 matches by crowdRules, and the name packed has 100.
const (
	crowd  = "aaaaaaaaaaaaaaaaaaaab"
	packed = "aaaaaaaaaaaaaaaaaaaac"
)

func crowdRules() []api.Spell { return append(letters("a", "vwxyz"), api.Spell{From: "b", To: "q"}) }

// The spellings of tangled by tangledRules have too many profiles.
const tangled = "bbbbbabaaabbaaabbaaabaaa"

func tangledRules() []api.Spell {
	return []api.Spell{{From: "b", To: "ab", Cost: 2}, {From: "bbb", To: "bb"}, {From: "a", To: "bb"}, {From: "a", To: "b", Cost: 2}}
}

func matchesOf(name string, l []api.Spell) int {
	n := 0
	for at := range name {
		for _, rule := range l {
			if strings.HasPrefix(name[at:], rule.From) {
				n++
			}
		}
	}
	return n
}

// rawAuto builds a raw automaton; the own states of matches come before the state to which they lead.
func rawAuto(name string, l []api.Spell) api.Auto {
	type match struct{ at, rule, own int }
	var matches []match
	states := make([]int, len(name)+1)
	next := 1
	for end := 1; end <= len(name); end++ {
		for i, rule := range l {
			if at := end - len(rule.From); at >= 0 && name[at:end] == rule.From {
				matches = append(matches, match{at, i, next})
				next += len(rule.To) - 1
			}
		}
		states[end] = next
		next++
	}
	a := api.Auto{States: next, Ends: []api.End{{State: next - 1}}}
	for i := range len(name) {
		a.Arcs = append(a.Arcs, api.Arc{From: states[i], To: states[i+1], Letter: name[i]})
	}
	for _, m := range matches {
		rule := l[m.rule]
		nodes := []int{states[m.at]}
		for i := range len(rule.To) - 1 {
			nodes = append(nodes, m.own+i)
		}
		nodes = append(nodes, states[m.at+len(rule.From)])
		for i := range len(rule.To) {
			arc := api.Arc{From: nodes[i], To: nodes[i+1], Letter: rule.To[i]}
			if i == 0 {
				arc.Cost = rule.Cost
			}
			a.Arcs = append(a.Arcs, arc)
		}
	}
	slices.SortFunc(a.Arcs, func(p, q api.Arc) int {
		return cmp.Or(cmp.Compare(p.From, q.From), cmp.Compare(p.To, q.To), cmp.Compare(p.Letter, q.Letter))
	})
	return a
}

func TestCheckSpells(t *testing.T) {
	many := func(n int) []api.Spell {
		var l []api.Spell
		for i := range n {
			l = append(l, api.Spell{From: string(rune('a' + i)), To: "zz", Cost: 1})
		}
		return l
	}
	rule := func(from, to string, cost int) []api.Spell { return []api.Spell{{From: from, To: to, Cost: cost}} }
	for _, x := range []struct {
		l    []api.Spell
		want api.Errno
	}{
		{nil, api.OK},
		{[]api.Spell{}, api.OK},
		{many(24), api.OK},
		{many(25), api.ErrLimit},
		{append(rule("", "", -1), many(24)...), api.ErrLimit},
		{rule("a", "b", 0), api.OK},
		{rule("abc", "def", 1000), api.OK},
		{rule(" ", "-", 5), api.OK},
		{rule("a ", " a ", 5), api.OK},
		{rule("0", "o", 5), api.OK},
		{rule("", "b", 0), api.ErrForm},
		{rule("a", "", 0), api.ErrForm},
		{rule("", "", 0), api.ErrForm},
		{rule("abcd", "b", 0), api.ErrForm},
		{rule("a", "bcde", 0), api.ErrForm},
		{rule("A", "b", 0), api.ErrForm},
		{rule("a", "bcB", 0), api.ErrForm},
		{rule("a_b", "b", 0), api.ErrForm},
		{rule("ä", "b", 0), api.ErrForm},
		{rule("A", "A", -1), api.ErrForm},
		{rule("a", "a", 0), api.ErrArg},
		{rule("abc", "abc", 0), api.ErrArg},
		{rule("a", "b", -1), api.ErrArg},
		{rule("a", "b", 1001), api.ErrArg},
		{rule("a", "b", math.MinInt), api.ErrArg},
		{rule("a", "b", math.MaxInt), api.ErrArg},
		{append(rule("a", "b", 1), rule("a", "b", 2)...), api.ErrTwice},
		{append(rule("a", "b", 1), rule("b", "a", 1)...), api.OK},
		{append(rule("a", "b", 1), rule("a", "c", 1)...), api.OK},
		{append(rule("a", "b", 1), rule("c", "b", 1)...), api.OK},
		{append(many(3), rule("c", "zz", 0)...), api.ErrTwice},
		// of each rule, form comes before cost, and cost before the comparison with rules before; the first wrong rule decides
		{append(rule("a", "b", 1), rule("a", "b", 1001)...), api.ErrArg},
		{append(rule("a", "b", 1001), rule("A", "b", 1)...), api.ErrArg},
		{append(rule("a", "B", 1001), rule("a", "a", 1)...), api.ErrForm},
		{slices.Concat(rule("a", "b", 1), rule("a", "b", 1), rule("", "b", 1)), api.ErrTwice},
	} {
		same(t, fmt.Sprintf("CheckSpells of %v", x.l), places.CheckSpells(x.l), x.want)
	}
}

// spellingErrors are names and rules, with the error that the functions on spellings of a name have in common.
func spellingErrors() []struct {
	name string
	l    []api.Spell
	want api.Errno
} {
	return []struct {
		name string
		l    []api.Spell
		want api.Errno
	}{
		{"", nil, api.ErrForm},
		{" a", nil, api.ErrForm},
		{"a ", nil, api.ErrForm},
		{"A", make([]api.Spell, 25), api.ErrForm},
		{strings.Repeat("a", 25), crowdRules(), api.ErrForm},
		{"a", make([]api.Spell, 25), api.ErrLimit},
		{crowd, append(crowdRules(), api.Spell{From: "", To: "b"}), api.ErrForm},
		{crowd, append(crowdRules(), api.Spell{From: "b", To: "b"}), api.ErrArg},
		{crowd, append(crowdRules(), api.Spell{From: "a", To: "z", Cost: 3}), api.ErrTwice},
		{crowd, crowdRules(), api.ErrLimit},
	}
}

func TestSpellingErrors(t *testing.T) {
	for _, x := range spellingErrors() {
		what := fmt.Sprintf("the name %q and the rules %v", x.name, x.l)
		a, e := places.Spelled(x.name, x.l)
		same(t, "Spelled of "+what, e, x.want)
		if a.States != 0 || len(a.Arcs) > 0 || len(a.Ends) > 0 {
			t.Fatalf("Spelled of %s returns %v with an error", what, a)
		}
		cost, uses, e := places.Written(x.name, x.name, x.l)
		same(t, "Written of "+what, e, x.want)
		same(t, "Written of "+what, cost, 0)
		equal(t, "Written of "+what, uses, nil)
		_, _, e = places.Written(x.name, "other", x.l)
		same(t, "Written of "+what, e, x.want)
		cost, e = places.CheckUses(x.name, x.name, x.l, nil)
		same(t, "CheckUses of "+what, e, x.want)
		same(t, "CheckUses of "+what, cost, 0)
		_, e = places.CheckUses(x.name, "other", x.l, []api.SpellUse{{At: -1}})
		same(t, "CheckUses of "+what, e, x.want)
	}
}

func TestMaxMatches(t *testing.T) {
	a, e := places.Spelled(packed, crowdRules())
	same(t, "Spelled with 100 matches", e, api.OK)
	cost, is := reading.Cost(a, "vwxyzvwxyzvwxyzaaaaac")
	same(t, "Cost", cost, 15)
	same(t, "Cost", is, true)
	cost, uses, e := places.Written(packed, "zzzzzzzzzzzzzzzzzzzzc", crowdRules())
	same(t, "Written with 100 matches", e, api.OK)
	same(t, "Written", cost, 20)
	same(t, "Written", len(uses), 20)
	_, e = places.CheckUses(packed, packed, crowdRules(), nil)
	same(t, "CheckUses with 100 matches", e, api.OK)
	apart, e := places.Apart([]string{packed}, []string{packed}, crowdRules())
	same(t, "Apart with 100 matches", e, api.OK)
	same(t, "Apart", apart, false)
	for _, x := range [][2][]string{{{crowd}, nil}, {nil, {crowd}}, {{"x", "b", crowd}, {"x"}}, {{"x"}, {"x", crowd}}} {
		apart, e := places.Apart(x[0], x[1], crowdRules())
		same(t, fmt.Sprintf("Apart of %v", x), e, api.ErrLimit)
		same(t, fmt.Sprintf("Apart of %v", x), apart, false)
	}
}

func TestSpelledIsTheNormalForm(t *testing.T) {
	r := rand.New(rand.NewSource(10))
	for range 300 {
		name, l := randomName(r), randomRules(r, 4)
		a, e := places.Spelled(name, l)
		same(t, "Spelled", e, api.OK)
		got, want := accepted(a), spellings(name, l)
		if len(got) != len(want) {
			t.Fatalf("Spelled(%q, %v) accepts %v; want %v", name, l, got, want)
		}
		for text, d := range want {
			cost, is := got[text]
			if !is || cost != d.cost {
				t.Fatalf("Spelled(%q, %v) accepts %v; want %v", name, l, got, want)
			}
		}
	}
	limits := 0
	for range 300 {
		name := ""
		for range 1 + r.Intn(24) {
			name += pick(r, "a", "b")
		}
		l := randomRules(r, r.Intn(7))
		a, e := places.Spelled(name, l)
		if matchesOf(name, l) <= 100 {
			want, f := reading.Normal(rawAuto(name, l))
			same(t, fmt.Sprintf("Spelled(%q, %v)", name, l), fmt.Sprint(a, e), fmt.Sprint(want, f))
			if f == api.ErrLimit {
				limits++
			}
		}
	}
	if limits < 5 {
		t.Errorf("only %d automata with too many profiles", limits)
	}
}

func TestSpelledWithTooManyProfiles(t *testing.T) {
	_, e := reading.Normal(rawAuto(tangled, tangledRules()))
	same(t, "Normal of the raw automaton", e, api.ErrLimit)
	a, e := places.Spelled(tangled, tangledRules())
	same(t, "Spelled", e, api.ErrLimit)
	same(t, "Spelled", fmt.Sprint(a), fmt.Sprint(api.Auto{}))
	// this limit is that of Spelled alone
	cost, uses, e := places.Written(tangled, tangled, tangledRules())
	same(t, "Written", fmt.Sprint(cost, uses, e), "0 [] 0")
	_, e = places.CheckUses(tangled, tangled, tangledRules(), nil)
	same(t, "CheckUses", e, api.OK)
	apart, e := places.Apart([]string{tangled}, []string{tangled}, tangledRules())
	same(t, "Apart", fmt.Sprint(apart, e), "false 0")
	g := open(t, "1 found 1 0 "+tangled, "1 found 2 1 a")
	_, fits, e := g.Fits(1, 1, word(t, tangled, 0), tangledRules())
	same(t, "Fits", fmt.Sprint(fits, e), "true 0")
	_, fits, e = g.FitsRegion(2, 1, word(t, tangled, 0), tangledRules())
	same(t, "FitsRegion", fmt.Sprint(fits, e), "true 0")
	_, e = g.Find(1, 0, word(t, "x", 0), tangledRules(), 0)
	same(t, "Find", e, api.OK)
	_, e = g.Twins(1, 1, tangledRules())
	same(t, "Twins", e, api.OK)
}

func TestWrittenAgainstTheOracle(t *testing.T) {
	r := rand.New(rand.NewSource(11))
	for range 400 {
		name, l := randomName(r), randomRules(r, 5)
		all := spellings(name, l)
		for text, want := range all {
			what := fmt.Sprintf("Written(%q, %q, %v)", name, text, l)
			cost, uses, e := places.Written(name, text, l)
			same(t, what, e, api.OK)
			same(t, what, cost, want.cost)
			equal(t, what, uses, want.uses)
			cost, e = places.CheckUses(name, text, l, uses)
			same(t, "CheckUses of "+what, e, api.OK)
			same(t, "CheckUses of "+what, cost, want.cost)
		}
		for range 10 {
			text := randomName(r)
			if _, is := all[text]; !is {
				cost, uses, e := places.Written(name, text, l)
				same(t, fmt.Sprintf("Written(%q, %q, %v)", name, text, l), fmt.Sprint(cost, uses, e), "0 [] 5")
			}
		}
	}
}

func TestWrittenChoosesTheFirstDerivation(t *testing.T) {
	rule := func(from, to string, cost int) api.Spell { return api.Spell{From: from, To: to, Cost: cost} }
	for _, x := range []struct {
		name, text string
		l          []api.Spell
		want       string
	}{
		// the beginning of a derivation comes before it
		{"aba", "aba", []api.Spell{rule("ab", "a", 0), rule("a", "ba", 0)}, "0 [] 0"},
		{"caba", "daba", []api.Spell{rule("ab", "a", 0), rule("a", "ba", 0), rule("c", "d", 0)}, "0 [{0 2}] 0"},
		// At comes before Rule
		{"ab", "cb", []api.Spell{rule("b", "d", 0), rule("ab", "cb", 1), rule("a", "c", 1)}, "1 [{0 1}] 0"},
		{"aa", "aaa", []api.Spell{rule("a", "aa", 2)}, "2 [{0 0}] 0"},
		{"ab", "aab", []api.Spell{rule("b", "ab", 2), rule("a", "aa", 2)}, "2 [{0 1}] 0"},
		{"ab", "aab", []api.Spell{rule("b", "ab", 1), rule("a", "aa", 2)}, "1 [{1 0}] 0"},
		// the cost comes before all
		{"ab", "cc", []api.Spell{rule("ab", "cc", 3), rule("a", "c", 1), rule("b", "c", 1)}, "2 [{0 1} {1 2}] 0"},
		{"ab", "cc", []api.Spell{rule("ab", "cc", 2), rule("a", "c", 1), rule("b", "c", 1)}, "2 [{0 0}] 0"},
		{"ab", "cc", []api.Spell{rule("b", "c", 1), rule("a", "c", 1), rule("ab", "cc", 2)}, "2 [{0 1} {1 0}] 0"},
		// what rules write is not read again
		{"a", "b", []api.Spell{rule("a", "b", 1), rule("b", "c", 1)}, "1 [{0 0}] 0"},
		{"a", "c", []api.Spell{rule("a", "b", 1), rule("b", "c", 1)}, "0 [] 5"},
		{"a b", "a-b", []api.Spell{rule(" ", "-", 1000)}, "1000 [{1 0}] 0"},
		{"a", "a", nil, "0 [] 0"},
		{"a", "", nil, "0 [] 5"},
		{"a", "A", nil, "0 [] 5"},
		{"a", "aa", nil, "0 [] 5"},
		{"a", " b ", []api.Spell{rule("a", " b ", 0)}, "0 [{0 0}] 0"},
		{strings.Repeat("a", 24), strings.Repeat("b", 72), []api.Spell{rule("a", "bbb", 1000)}, "24000 [{0 0} {1 0} {2 0} {3 0} {4 0} {5 0} {6 0} {7 0} {8 0} {9 0} {10 0} {11 0} {12 0} {13 0} {14 0} {15 0} {16 0} {17 0} {18 0} {19 0} {20 0} {21 0} {22 0} {23 0}] 0"},
		{strings.Repeat("a", 24), strings.Repeat("b", 1000000), []api.Spell{rule("a", "bbb", 1000)}, "0 [] 5"},
		{strings.Repeat("a", 24), strings.Repeat("a", 1000000), []api.Spell{rule("a", "aaa", 0), rule("aa", "a", 0)}, "0 [] 5"},
	} {
		cost, uses, e := places.Written(x.name, x.text, x.l)
		same(t, fmt.Sprintf("Written(%q, %.80q, %v)", x.name, x.text, x.l), fmt.Sprint(cost, uses, e), x.want)
	}
}

func TestCheckUses(t *testing.T) {
	l := []api.Spell{{From: "a", To: "b", Cost: 1}, {From: "aa", To: "c", Cost: 20}, {From: "b", To: "aa", Cost: 300}}
	for _, x := range []struct {
		text string
		uses []api.SpellUse
		want string
	}{
		{"aaab", nil, "0 0"},
		{"aaab", []api.SpellUse{}, "0 0"},
		{"baab", []api.SpellUse{{At: 0, Rule: 0}}, "1 0"},
		{"bbbaa", []api.SpellUse{{At: 0, Rule: 0}, {At: 1, Rule: 0}, {At: 2, Rule: 0}, {At: 3, Rule: 2}}, "303 0"},
		{"cbaa", []api.SpellUse{{At: 0, Rule: 1}, {At: 2, Rule: 0}, {At: 3, Rule: 2}}, "321 0"},
		{"bcb", []api.SpellUse{{At: 0, Rule: 0}, {At: 1, Rule: 1}}, "21 0"},
		{"aaaaa", []api.SpellUse{{At: 3, Rule: 2}}, "300 0"},
		// no derivations
		{"baab", []api.SpellUse{{At: -1, Rule: 0}}, "0 1"},
		{"baab", []api.SpellUse{{At: 4, Rule: 0}}, "0 1"},
		{"baab", []api.SpellUse{{At: 5, Rule: 0}}, "0 1"},
		{"baab", []api.SpellUse{{At: math.MaxInt, Rule: 0}}, "0 1"},
		{"baab", []api.SpellUse{{At: math.MinInt, Rule: 0}}, "0 1"},
		{"baab", []api.SpellUse{{At: 0, Rule: -1}}, "0 1"},
		{"baab", []api.SpellUse{{At: 0, Rule: 3}}, "0 1"},
		{"baab", []api.SpellUse{{At: 0, Rule: math.MaxInt}}, "0 1"},
		{"baab", []api.SpellUse{{At: 0, Rule: math.MinInt}}, "0 1"},
		{"aaab", []api.SpellUse{{At: 3, Rule: 0}}, "0 1"},
		{"aaab", []api.SpellUse{{At: 2, Rule: 1}}, "0 1"},
		{"aaab", []api.SpellUse{{At: 0, Rule: 0}, {At: 0, Rule: 0}}, "0 1"},
		{"bbab", []api.SpellUse{{At: 1, Rule: 0}, {At: 0, Rule: 0}}, "0 1"},
		{"ccb", []api.SpellUse{{At: 0, Rule: 1}, {At: 1, Rule: 1}}, "0 1"},
		{"cbb", []api.SpellUse{{At: 0, Rule: 1}, {At: 1, Rule: 0}}, "0 1"},
		{"", []api.SpellUse{{At: 0, Rule: 0}, {At: 9, Rule: 0}}, "0 1"},
		// other texts
		{"baab", nil, "0 5"},
		{"", nil, "0 5"},
		{"aaab", []api.SpellUse{{At: 0, Rule: 0}}, "0 5"},
		{"baabb", []api.SpellUse{{At: 0, Rule: 0}}, "0 5"},
		{"baa", []api.SpellUse{{At: 0, Rule: 0}}, "0 5"},
	} {
		cost, e := places.CheckUses("aaab", x.text, l, x.uses)
		same(t, fmt.Sprintf("CheckUses of %q and %v", x.text, x.uses), fmt.Sprint(cost, e), x.want)
	}
}

// P2.5.
func TestSpellings(t *testing.T) {
	r := rand.New(rand.NewSource(12))
	for range 200 {
		name, l := randomName(r), randomRules(r, 4)
		a, e := places.Spelled(name, l)
		same(t, "Spelled", e, api.OK)
		least := map[string]int{}
		for _, uses := range derivations(name, l) {
			text, cost := written(name, l, uses)
			got, e := places.CheckUses(name, text, l, uses)
			same(t, fmt.Sprintf("CheckUses(%q, %q, %v, %v)", name, text, l, uses), fmt.Sprint(got, e), fmt.Sprint(cost, api.OK))
			if old, met := least[text]; !met || got < old {
				least[text] = got
			}
		}
		for text, cost := range least {
			spelled, is := reading.Cost(a, text)
			same(t, "Cost of "+text, fmt.Sprint(spelled, is), fmt.Sprint(cost, true))
			written, _, e := places.Written(name, text, l)
			same(t, "Written of "+text, fmt.Sprint(written, e), fmt.Sprint(cost, api.OK))
		}
		for range 20 {
			text := randomName(r)
			_, is := reading.Cost(a, text)
			_, _, e := places.Written(name, text, l)
			same(t, "a spelling", is, e == api.OK)
		}
	}
}

func TestApartErrors(t *testing.T) {
	many := func(n int, name string) []string { return slices.Repeat([]string{name}, n) }
	for _, x := range []struct {
		a, b []string
		l    []api.Spell
		want string
	}{
		{many(16, "a"), many(16, "b"), nil, "true 0"},
		{many(17, "a"), many(16, "b"), nil, "false 2"},
		{many(16, "a"), many(17, "b"), nil, "false 2"},
		{many(17, "A"), nil, make([]api.Spell, 1), "false 2"},
		{nil, nil, nil, "true 0"},
		{[]string{}, []string{"a"}, nil, "true 0"},
		{[]string{"a"}, nil, nil, "true 0"},
		{[]string{"a", ""}, nil, make([]api.Spell, 25), "false 4"},
		{nil, []string{"a", "b "}, []api.Spell{{From: "a", To: "a"}}, "false 4"},
		{nil, nil, []api.Spell{{From: "a", To: "a"}}, "false 1"},
		{[]string{crowd}, []string{crowd}, append(crowdRules(), crowdRules()[0]), "false 6"},
		{nil, nil, make([]api.Spell, 25), "false 2"},
	} {
		apart, e := places.Apart(x.a, x.b, x.l)
		same(t, fmt.Sprintf("Apart(%v, %v, %v)", x.a, x.b, x.l), fmt.Sprint(apart, e), x.want)
	}
}

// P2.8, of Apart.
func TestApart(t *testing.T) {
	r := rand.New(rand.NewSource(13))
	met := map[bool]int{}
	for range 600 {
		l := randomRules(r, r.Intn(6))
		var a, b []string
		for range r.Intn(6) {
			a = append(a, randomName(r)[:1]+pick(r, "", "a", "bc", "d"))
		}
		for range r.Intn(6) {
			b = append(b, randomName(r)[:1]+pick(r, "", "a", "bc", "d"))
		}
		want := apartOf(a, b, l)
		met[want]++
		what := fmt.Sprintf("Apart(%v, %v, %v)", a, b, l)
		apart, e := places.Apart(a, b, l)
		same(t, what, fmt.Sprint(apart, e), fmt.Sprint(want, api.OK))
		apart, e = places.Apart(b, a, l)
		same(t, "the other way round, "+what, fmt.Sprint(apart, e), fmt.Sprint(want, api.OK))
		apart, e = places.Apart(a, a, l)
		same(t, "with itself, "+what, fmt.Sprint(apart, e), fmt.Sprint(len(a) == 0, api.OK))
	}
	if met[true] < 100 || met[false] < 100 {
		t.Errorf("apart and not: %v", met)
	}
}
