package seals_test

import (
	"fmt"
	"math/rand"
	"slices"
	"strings"
	"testing"

	"restante/api"
	"restante/seals"
)

// node returns a condition without elements.
func node(op uint8, n int) api.Cond { return api.Cond{Op: op, N: n} }

// with returns a condition with elements.
func with(op uint8, of ...api.Cond) api.Cond { return api.Cond{Op: op, Of: of} }

// nots returns a condition of this depth.
func nots(depth int) api.Cond {
	c := node(1, 0)
	for range depth - 1 {
		c = with(8, c)
	}
	return c
}

// wide returns a condition of this number of nodes.
func wide(nodes int) api.Cond {
	return with(10, slices.Repeat([]api.Cond{node(7, 0)}, nodes-1)...)
}

// ruled returns rules of which one has this condition.
func ruled(c api.Cond) api.Rules { return api.Rules{List: []api.Rule{{Name: "a", Rank: 1, If: c}}} }

// The limits of conditions at their values and one beyond; the table of the chapter, row by row.
func TestConditionErrors(t *testing.T) {
	good, arg, limit := api.OK, api.ErrArg, api.ErrLimit
	for i, x := range []struct {
		c    api.Cond
		want api.Errno
	}{
		{node(1, 0), good}, {node(1, 1), arg}, {node(1, -1), arg}, {with(1, node(1, 0)), arg},
		{node(2, 1), good}, {node(2, 8), good}, {node(2, 0), arg}, {node(2, 9), arg}, {api.Cond{Op: 2, N: 1, Of: []api.Cond{node(1, 0)}}, arg},
		{node(3, 0), good}, {node(3, 100000), good}, {node(3, -1), arg}, {node(3, 100001), arg}, {with(3, node(1, 0)), arg},
		{node(4, 0), good}, {node(4, 100000), good}, {node(4, -1), arg}, {node(4, 100001), arg}, {with(4, node(1, 0)), arg},
		{node(5, 0), good}, {node(5, 2), good}, {node(5, -1), arg}, {node(5, 3), arg}, {with(5, node(1, 0)), arg},
		{node(6, 0), good}, {node(6, 2), good}, {node(6, -1), arg}, {node(6, 3), arg}, {with(6, node(1, 0)), arg},
		{node(7, 0), good}, {node(7, 1), arg}, {with(7, node(1, 0)), arg},
		{with(8, node(1, 0)), good}, {with(8), arg}, {with(8, node(1, 0), node(1, 0)), arg}, {api.Cond{Op: 8, N: 1, Of: []api.Cond{node(1, 0)}}, arg},
		{with(9, node(1, 0), node(7, 0)), good}, {with(9, node(1, 0), node(7, 0), node(2, 3)), good}, {with(9, node(1, 0)), arg}, {with(9), arg},
		{with(10, node(1, 0), node(7, 0)), good}, {with(10, node(1, 0), node(7, 0), node(2, 3)), good}, {with(10, node(1, 0)), arg}, {with(10), arg},
		{api.Cond{Op: 9, N: 1, Of: []api.Cond{node(1, 0), node(1, 0)}}, arg}, {api.Cond{Op: 10, N: -1, Of: []api.Cond{node(1, 0), node(1, 0)}}, arg},
		{node(0, 0), arg}, {node(11, 0), arg}, {node(255, 0), arg}, {with(9, node(1, 0), node(2, 9)), arg}, {with(10, node(0, 0), node(1, 0)), arg},
		{nots(6), good}, {nots(7), limit}, {wide(40), good}, {wide(41), limit},
		{with(8, wide(39)), good}, {with(8, wide(40)), limit}, {with(9, wide(20), wide(19)), good}, {with(9, wide(20), wide(20)), limit},
		// a limit goes before whatever else is not valid, also where the elements should not be there
		{with(0, nots(6)), limit}, {with(0, nots(5)), arg}, {with(1, wide(40)), limit}, {with(1, wide(39)), arg},
		{nots(1 << 16), limit}, {wide(1000000), limit},
	} {
		same(t, "the oracle", condError(x.c), x.want)
		what := fmt.Sprintf("the condition %d with the Op %d, the N %d and %d elements", i, x.c.Op, x.c.N, len(x.c.Of))
		same(t, what, seals.CheckRules(ruled(x.c)), x.want)
		f := api.Fact{Room: 8, Layer: 1, Claim: true, To: 2}
		_, _, e := seals.Decide(ruled(x.c), f)
		same(t, what, e, x.want)
		same(t, what, seals.Holds(x.c, f), x.want == good && holdsAt(x.c, f))
	}
}

// A condition may contain itself, or have many more nodes than memory, since slices share memory.
func TestTangledConditions(t *testing.T) {
	loop := make([]api.Cond, 2)
	loop[0], loop[1] = with(9, loop...), with(10, loop...)
	loop[0].Of, loop[1].Of = loop, loop
	broad := node(7, 0)
	for range 60 {
		broad = with(9, broad, broad, broad)
	}
	for _, c := range []api.Cond{with(8, loop...), broad} {
		same(t, "CheckRules", seals.CheckRules(ruled(c)), api.ErrLimit)
		same(t, "Holds", seals.Holds(c, api.Fact{}), false)
		same(t, "Print", seals.Print(ruled(c)), "")
	}
}

// D4: also at facts that are not valid.
func TestHolds(t *testing.T) {
	r := rand.New(rand.NewSource(1))
	met := map[string]int{}
	for range 20000 {
		c, f := validCond(r), randomFact(r)
		if r.Intn(3) == 0 {
			c = spoiltCond(r, c)
		}
		if r.Intn(3) == 0 {
			f = spoiltFact(r)
		}
		want := condError(c) == api.OK && holdsAt(c, f)
		met[fmt.Sprint(condError(c), want)]++
		same(t, fmt.Sprintf("Holds of %+v at %+v", c, f), seals.Holds(c, f), want)
	}
	for _, x := range []string{"0 true", "0 false", "1 false", "2 false"} {
		if met[x] < 100 {
			t.Errorf("only %d of %s", met[x], x)
		}
	}
	for _, x := range []struct {
		c    api.Cond
		f    api.Fact
		want bool
	}{
		{node(3, 5), api.Fact{Days: 4}, true}, {node(3, 5), api.Fact{Days: 5}, false}, {node(4, 5), api.Fact{Days: 4}, false}, {node(4, 5), api.Fact{Days: 5}, true},
		{node(3, 0), api.Fact{Days: -1}, true}, {node(4, 100000), api.Fact{Days: 100001}, true},
		{node(5, 1), api.Fact{To: 1}, true}, {node(5, 1), api.Fact{From: 1}, false}, {node(6, 1), api.Fact{From: 1}, true}, {node(6, 1), api.Fact{To: 1}, false},
		{node(2, 3), api.Fact{Room: 3}, true}, {node(2, 3), api.Fact{Layer: 3}, false}, {node(7, 0), api.Fact{}, false}, {node(7, 0), api.Fact{Claim: true}, true},
	} {
		same(t, fmt.Sprintf("Holds of %+v at %+v", x.c, x.f), seals.Holds(x.c, x.f), x.want)
	}
}

// D3: the order of the errors, each behind what would be refused later.
func TestRuleErrors(t *testing.T) {
	rule := func(name string, rank, layer int, c api.Cond) api.Rule {
		return api.Rule{Name: name, Rank: rank, Layer: layer, If: c}
	}
	yes := node(1, 0)
	var many []api.Rule
	for i := range 41 {
		many = append(many, rule(fmt.Sprint("r", i), 1, 0, yes))
	}
	list := func(rules ...api.Rule) api.Rules { return api.Rules{List: rules} }
	for _, x := range []struct {
		r    api.Rules
		want api.Errno
	}{
		{api.Rules{}, api.OK}, {api.Rules{Weights: [3]int{1000, 0, 1000}}, api.OK},
		{api.Rules{Weights: [3]int{1001}}, api.ErrArg}, {api.Rules{Weights: [3]int{0, -1}}, api.ErrArg}, {api.Rules{Weights: [3]int{0, 0, 1001}}, api.ErrArg},
		{list(many[:40]...), api.OK}, {list(many...), api.ErrLimit}, {api.Rules{Weights: [3]int{-1}, List: many}, api.ErrArg},
		{list(append(slices.Clone(many[:40]), rule("A", 0, 9, nots(9)))...), api.ErrLimit},
		{list(rule("a", 1, 0, yes)), api.OK}, {list(rule("", 1, 0, yes)), api.ErrForm}, {list(rule("A", 1, 0, yes)), api.ErrForm}, {list(rule("1a", 1, 0, yes)), api.ErrForm},
		{list(rule("-a", 1, 0, yes)), api.ErrForm}, {list(rule("a-0z9", 1, 0, yes)), api.OK}, {list(rule("a b", 1, 0, yes)), api.ErrForm}, {list(rule("a\n", 1, 0, yes)), api.ErrForm},
		{list(rule(strings.Repeat("z", 24), 1, 0, yes)), api.OK}, {list(rule(strings.Repeat("z", 25), 1, 0, yes)), api.ErrForm}, {list(rule("rule", 1, 0, yes)), api.OK},
		{list(rule("a", 1, 0, yes), rule("a", 1, 0, yes)), api.ErrTwice}, {list(rule("a", 1, 0, yes), rule("b", 1, 0, yes), rule("a", 0, 9, nots(7))), api.ErrTwice},
		{list(rule("a", 1, 0, yes), rule("A", 0, 0, yes)), api.ErrForm}, {list(rule("a", 0, 0, yes), rule("a", 1, 0, yes)), api.ErrArg},
		{list(rule("a", 99, 3, yes)), api.OK}, {list(rule("a", 100, 3, yes)), api.ErrArg}, {list(rule("a", 0, 3, yes)), api.ErrArg},
		{list(rule("a", 1, 4, yes)), api.ErrArg}, {list(rule("a", 1, -1, yes)), api.ErrArg},
		{list(rule("a", 0, 0, nots(7))), api.ErrArg}, {list(rule("a", 1, 4, wide(41))), api.ErrArg}, {list(rule("a", 1, 0, nots(7)), rule("", 1, 0, yes)), api.ErrLimit},
	} {
		same(t, "the oracle", rulesError(x.r), x.want)
		same(t, fmt.Sprintf("CheckRules of %+v", x.r), seals.CheckRules(x.r), x.want)
	}
}

// D3, D5.
func TestDecideAgainstTheOracle(t *testing.T) {
	r := rand.New(rand.NewSource(2))
	met := map[string]int{}
	for range 8000 {
		rules, f := randomRules(r, r.Intn(6), 1+r.Intn(4)), randomFact(r)
		if r.Intn(4) == 0 {
			rules = spoiltRules(r, rules)
		}
		if r.Intn(8) == 0 {
			f = spoiltFact(r)
		}
		same(t, fmt.Sprintf("CheckRules of %+v", rules), seals.CheckRules(rules), rulesError(rules))
		open, rule, e := decideOf(rules, f)
		met[fmt.Sprint(e, open, rule < 0)]++
		same(t, fmt.Sprintf("Decide of %+v at %+v", rules, f), fmt.Sprint(seals.Decide(rules, f)), fmt.Sprint(open, rule, e))
	}
	for _, x := range []string{"0 true false", "0 false false", "0 false true", "1 false false", "2 false false", "4 false false", "6 false false", "40 false false"} {
		if met[x] < 20 {
			t.Errorf("only %d of %s", met[x], x)
		}
	}
}

// D5: errors in their order, and which of several deciding rules is named.
func TestDecide(t *testing.T) {
	f := api.Fact{Room: 1, Layer: 2}
	bad := api.Fact{Room: 9, Layer: 2}
	same(t, "no rules", fmt.Sprint(seals.Decide(api.Rules{}, f)), "false -1 0")
	same(t, "a bad fact", fmt.Sprint(seals.Decide(api.Rules{}, bad)), fmt.Sprint(false, 0, api.ErrArg))
	same(t, "bad rules", fmt.Sprint(seals.Decide(ruled(nots(7)), bad)), fmt.Sprint(false, 0, api.ErrLimit))
	clash := parsed(t, "weights 0 0 0\nrule a rank 1: open any if always\nrule b rank 1: leave 2 if always")
	same(t, "a clash", fmt.Sprint(seals.Decide(clash, f)), fmt.Sprint(false, 0, api.ErrClash))
	same(t, "a clash at a bad fact", fmt.Sprint(seals.Decide(clash, bad)), fmt.Sprint(false, 0, api.ErrArg))
	f.Layer = 3
	same(t, "another layer", fmt.Sprint(seals.Decide(clash, f)), "true 0 0")
	three := parsed(t, "weights 0 0 0\nrule a rank 1: leave any if always\nrule b rank 7: open 3 if always\nrule c rank 7: open any if always\nrule d rank 6: leave any if always")
	same(t, "the first of the greatest rank", fmt.Sprint(seals.Decide(three, f)), "true 1 0")
	hidden := parsed(t, "weights 0 0 0\nrule a rank 1: leave any if always\nrule b rank 1: open any if always\nrule c rank 2: leave any if days < 5")
	same(t, "rules of less rank do not clash", fmt.Sprint(seals.Decide(hidden, f)), "false 2 0")
	f.Days = 5
	same(t, "but here they do", fmt.Sprint(seals.Decide(hidden, f)), fmt.Sprint(false, 0, api.ErrClash))
}

// daysOf returns days between which nothing changes.
func daysOf() []int { return []int{0, 1, 2, 4, 5, 8, 9, 10, 29, 30, 31, 99998, 99999, 100000} }

// checkCompiled compares a policy or a clash with Decide at all facts, which is itself compared with the oracle at some.
func checkCompiled(t *testing.T, rules api.Rules, r *rand.Rand) api.Errno {
	t.Helper()
	what := fmt.Sprintf("Compile of %+v", rules)
	p, clash, e := seals.Compile(rules)
	for _, f := range rowFacts() {
		for _, day := range daysOf() {
			f.Days = day
			if e == api.ErrClash && f == clash.At {
				same(t, what, fmt.Sprint(clash.A, clash.B), fmt.Sprint(clashOf(rules, f)[0], clashOf(rules, f)[1]))
				_, _, e := seals.Decide(rules, f)
				same(t, "Decide", e, api.ErrClash)
				same(t, what, show(p), show(api.Policy{}))
				return api.ErrClash
			}
			open, rule := false, 0
			if r.Intn(20) == 0 {
				var decided api.Errno
				open, rule, decided = seals.Decide(rules, f)
				same(t, "Decide", decided, api.OK)
			} else if list := decidersOf(rules, f); clashOf(rules, f) != nil {
				t.Fatalf("%s: %v, %d; there is a clash at %+v", what, clash, e, f)
			} else if rule = -1; len(list) > 0 {
				open, rule = rules.List[list[0]].Open, list[0]
			}
			if e == api.OK {
				got, by := seals.Apply(p, f)
				same(t, fmt.Sprintf("%s: Apply at %+v", what, f), fmt.Sprint(got, by), fmt.Sprint(open, rule))
			}
		}
	}
	same(t, what, e, api.OK)
	same(t, what, clash, api.Clash{})
	same(t, "CheckPolicy", seals.CheckPolicy(p), api.OK)
	same(t, "the oracle", goodPolicy(p), true)
	same(t, "the weights", p.Weights, rules.Weights)
	return api.OK
}

// D6, P4.2.
func TestCompile(t *testing.T) {
	r := rand.New(rand.NewSource(3))
	met := map[api.Errno]int{}
	for range 60 {
		met[checkCompiled(t, randomRules(r, r.Intn(7), pick(r, 1, 2, 10, 30)), r)]++
	}
	for range 20 {
		rules := randomRules(r, 3, 99)
		if r.Intn(2) == 0 {
			// mostly a clash late in the order of facts
			c := with(9, node(2, 8), node(4, pick(r, 30, 99999, 100000)))
			rules.List = append(rules.List, api.Rule{Name: "x", Rank: 99, Open: true, If: c}, api.Rule{Name: "y", Rank: 99, Layer: 3, If: c})
		}
		met[checkCompiled(t, rules, r)]++
	}
	if met[api.OK] < 15 || met[api.ErrClash] < 15 {
		t.Errorf("only these results: %v", met)
	}
	for range 300 {
		rules := spoiltRules(r, randomRules(r, 1+r.Intn(4), 99))
		if want := rulesError(rules); want != api.OK {
			p, clash, e := seals.Compile(rules)
			same(t, fmt.Sprintf("Compile of %+v", rules), fmt.Sprint(show(p), clash, e), fmt.Sprint(show(api.Policy{}), api.Clash{}, want))
		}
	}
}

// D6: the first clash has the least A, and then the least B.
func TestClashes(t *testing.T) {
	rank := func(lines ...string) api.Rules { return parsed(t, "weights 0 0 0\n"+strings.Join(lines, "\n")) }
	clashes := func(r api.Rules) string {
		_, clash, e := seals.Compile(r)
		return fmt.Sprint(clash, e)
	}
	same(t, "many rules", clashes(rank("rule z rank 1: leave any if always", "rule a rank 9: open 2 if claim", "rule b rank 9: open any if claim", "rule c rank 9: leave any if days >= 7", "rule d rank 9: leave 2 if claim")), "{2 3 {1 1 7 0 0 true}} 40")
	same(t, "the layer 2", clashes(rank("rule a rank 9: open 2 if claim", "rule b rank 9: open 2 if claim", "rule c rank 9: leave 2 if days >= 7", "rule d rank 9: leave 2 if claim")), "{0 3 {1 2 0 0 0 true}} 40")
	same(t, "the last day", clashes(rank("rule a rank 9: open 3 if room 8 and claim and addressees many and senders many", "rule b rank 9: leave any if days >= 100000")), "{0 1 {8 3 100000 2 2 true}} 40")
	same(t, "many rivals", clashes(rank("rule a rank 9: leave any if claim", "rule b rank 9: leave any if always", "rule c rank 9: open 1 if claim", "rule d rank 9: open 2 if always", "rule e rank 9: open 1 if always", "rule f rank 9: open 1 if always")), "{1 4 {1 1 0 0 0 false}} 40")
	same(t, "never", clashes(rank("rule a rank 9: open any if days < 5", "rule b rank 9: leave any if days >= 5", "rule c rank 9: leave any if days < 0")), "{0 0 {0 0 0 0 0 false}} 0")
	same(t, "hidden by a greater rank", clashes(rank("rule a rank 9: open any if always", "rule b rank 9: leave any if days >= 5", "rule c rank 10: leave any if days >= 5")), "{0 0 {0 0 0 0 0 false}} 0")
}

// Rules of the greatest size.
func TestGreatRules(t *testing.T) {
	var rules api.Rules
	for i := range 40 {
		c := with(10)
		for j := range 39 {
			c.Of = append(c.Of, node(uint8(3+(i+j)%2), (i*39+j)*60))
		}
		rules.List = append(rules.List, api.Rule{Name: fmt.Sprint("r", i), Rank: 1 + i*2, Open: i%3 == 0, If: c})
	}
	p, _, e := seals.Compile(rules)
	same(t, "Compile", e, api.OK)
	for day := 0; day <= 100000; day += 97 {
		f := api.Fact{Room: 5, Layer: 2, Days: day}
		open, rule, _ := decideOf(rules, f)
		same(t, fmt.Sprint("the day ", day), fmt.Sprint(seals.Apply(p, f)), fmt.Sprint(open, rule))
	}
}

// P4.2: policies of equal weights and decisions are equal, whatever rules they come from.
func TestPoliciesAreUnique(t *testing.T) {
	a := compiled(t, "weights 1 2 3\nrule a rank 4: open any if days < 10 or days >= 30\nrule b rank 3: leave 2 if not (room 3 or claim)")
	b := compiled(t, "weights 1 2 3\nrule z rank 9: open any if not (days >= 10 and days < 30) and (days < 99 or days >= 99)\nrule y rank 2: leave 2 if not room 3 and not claim")
	equal(t, "the policies", a, b)
}
