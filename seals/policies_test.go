package seals_test

import (
	"fmt"
	"math/rand"
	"testing"

	"restante/api"
	"restante/seals"
)

func span(from int, open bool, rule int) api.Span {
	return api.Span{From: from, Open: open, Rule: rule}
}

// plain returns a policy whose rows have one closed span, but one row has these spans.
func plain(at int, spans ...api.Span) api.Policy {
	var p api.Policy
	for i, f := range rowFacts() {
		row := api.Row{Room: f.Room, Layer: f.Layer, To: f.To, From: f.From, Claim: f.Claim, Spans: []api.Span{{Rule: -1}}}
		if i == at {
			row.Spans = spans
		}
		p.Rows = append(p.Rows, row)
	}
	return p
}

// D7.
func TestCheckPolicy(t *testing.T) {
	for _, x := range []struct {
		want  api.Errno
		spans []api.Span
	}{
		{api.ErrArg, nil}, {api.OK, []api.Span{span(0, false, -1)}}, {api.OK, []api.Span{span(0, true, 39)}}, {api.ErrArg, []api.Span{span(0, true, 40)}},
		{api.ErrArg, []api.Span{span(0, true, -1)}}, {api.ErrArg, []api.Span{span(0, false, -2)}}, {api.ErrArg, []api.Span{span(1, false, -1)}}, {api.ErrArg, []api.Span{span(-1, false, -1)}},
		{api.OK, []api.Span{span(0, false, -1), span(100000, true, 0)}}, {api.ErrArg, []api.Span{span(0, false, -1), span(100001, true, 0)}}, {api.ErrArg, []api.Span{span(0, false, -1), span(0, true, 0)}},
		{api.ErrArg, []api.Span{span(0, false, -1), span(5, true, 0), span(4, true, 1)}}, {api.ErrArg, []api.Span{span(0, false, -1), span(5, true, 0), span(5, true, 1)}}, {api.OK, []api.Span{span(0, false, -1), span(5, true, 0), span(6, true, 1)}},
		{api.ErrArg, []api.Span{span(0, false, -1), span(5, false, -1)}}, {api.ErrArg, []api.Span{span(0, true, 3), span(5, true, 3)}}, {api.OK, []api.Span{span(0, true, 3), span(5, false, 3)}}, {api.OK, []api.Span{span(0, false, 3), span(5, false, -1)}},
		{api.ErrArg, []api.Span{span(0, false, 3), span(5, true, -1)}},
	} {
		for _, at := range []int{0, 17, 431} {
			p := plain(at, x.spans...)
			same(t, "the oracle", goodPolicy(p), x.want == api.OK)
			same(t, fmt.Sprintf("the spans %v at %d", x.spans, at), seals.CheckPolicy(p), x.want)
		}
	}
	same(t, "no rows", seals.CheckPolicy(api.Policy{}), api.ErrArg)
	p := plain(-1)
	same(t, "431 rows", seals.CheckPolicy(api.Policy{Rows: p.Rows[:431]}), api.ErrArg)
	same(t, "433 rows", seals.CheckPolicy(api.Policy{Rows: append(p.Rows, p.Rows[431])}), api.ErrArg)
	for i := range 3 {
		for weight, want := range map[int]api.Errno{0: api.OK, 1000: api.OK, -1: api.ErrArg, 1001: api.ErrArg} {
			p := plain(-1)
			p.Weights[i] = weight
			same(t, fmt.Sprint("the weight ", weight), seals.CheckPolicy(p), want)
		}
	}
	p.Rows[3], p.Rows[4] = p.Rows[4], p.Rows[3]
	same(t, "rows in another order", seals.CheckPolicy(p), api.ErrArg)
}

// D7, D8, D10.
func TestPoliciesAgainstTheOracle(t *testing.T) {
	r := rand.New(rand.NewSource(4))
	met := map[string]int{}
	for range 1500 {
		p := randomPolicy(r)
		if r.Intn(3) > 0 {
			p = spoiltPolicy(r, p)
		}
		good := goodPolicy(p)
		same(t, "CheckPolicy", seals.CheckPolicy(p) == api.OK, good)
		for range 8 {
			f := randomFact(r)
			f.Days = pick(r, f.Days, r.Intn(25))
			if r.Intn(6) == 0 {
				f = spoiltFact(r)
			}
			open, rule := false, -1
			if good && goodFact(f) {
				open, rule = decisionOf(p, f)
			}
			same(t, fmt.Sprintf("Apply at %+v", f), fmt.Sprint(seals.Apply(p, f)), fmt.Sprint(open, rule))
			day, found := sinceOf(p, f)
			met[fmt.Sprint(good, goodFact(f), found)]++
			same(t, fmt.Sprintf("Since at %+v", f), fmt.Sprint(seals.Since(p, f)), fmt.Sprint(day, found))
		}
	}
	for _, x := range []string{"true true true", "true true false", "true false false", "false true false"} {
		if met[x] < 50 {
			t.Errorf("only %d of %s", met[x], x)
		}
	}
}

// sinceOf is what Since returns, since decisions only change on days that begin a span.
func sinceOf(p api.Policy, f api.Fact) (int, bool) {
	if !goodPolicy(p) || !goodFact(f) {
		return 0, false
	}
	days := []int{f.Days}
	g := f
	g.Days = 0
	for i, x := range rowFacts() {
		if x == g {
			for _, span := range p.Rows[i].Spans {
				if span.From > f.Days {
					days = append(days, span.From)
				}
			}
		}
	}
	for _, day := range days {
		f.Days = day
		if open, _ := decisionOf(p, f); open {
			return day, true
		}
	}
	return 0, false
}

// differOf is what Differ returns, for policies whose spans begin before day 40 or on the last days.
func differOf(p, q api.Policy) (api.Fact, bool) {
	if !goodPolicy(p) || !goodPolicy(q) {
		return api.Fact{}, false
	}
	for i, f := range rowFacts() {
		openOf := func(p api.Policy, day int) bool {
			open := false
			for _, x := range p.Rows[i].Spans {
				if x.From <= day {
					open = x.Open
				}
			}
			return open
		}
		for _, day := range append(untilDay(40), 99999, 100000) {
			if openOf(p, day) != openOf(q, day) {
				f.Days = day
				return f, true
			}
		}
	}
	return api.Fact{}, false
}

func untilDay(n int) []int {
	var days []int
	for day := range n {
		days = append(days, day)
	}
	return days
}

// D9, P4.4.
func TestDiffer(t *testing.T) {
	r := rand.New(rand.NewSource(5))
	met := map[bool]int{}
	for range 1500 {
		p := randomPolicy(r)
		q := copyPolicy(p)
		for range r.Intn(3) {
			// change a row: with another decision, or with the same by another rule, or with other parts
			row := &q.Rows[r.Intn(432)]
			spans := randomPolicy(r).Rows[0].Spans
			if r.Intn(2) == 0 {
				spans = nil
				for i, x := range row.Spans {
					if x.Rule >= 0 {
						x.Rule = 10 + i
					}
					spans = append(spans, x)
				}
			}
			row.Spans = spans
		}
		if r.Intn(8) == 0 {
			q = spoiltPolicy(r, q)
		}
		if r.Intn(2) == 0 {
			p, q = q, p
		}
		f, differs := differOf(p, q)
		met[differs]++
		same(t, "Differ", fmt.Sprint(seals.Differ(p, q)), fmt.Sprint(f, differs))
	}
	if met[true] < 300 || met[false] < 300 {
		t.Errorf("only these results: %v", met)
	}
}

func TestDifferAtTheEdges(t *testing.T) {
	closed, open, late := api.Span{Rule: -1}, api.Span{Open: true}, api.Span{From: 100000, Open: true}
	differ := func(p, q api.Policy) string { return fmt.Sprint(seals.Differ(p, q)) }
	same(t, "the last fact", differ(plain(-1), plain(431, closed, late)), "{8 3 100000 2 2 true} true")
	same(t, "the first fact", differ(plain(0, open), plain(-1)), "{1 1 0 0 0 false} true")
	same(t, "the rule alone", differ(plain(0, api.Span{Rule: 4}, api.Span{From: 7, Rule: 5}), plain(-1)), "{0 0 0 0 0 false} false")
	same(t, "the weights alone", differ(plain(0), plain(0)), "{0 0 0 0 0 false} false")
	p, q := plain(7, open, api.Span{From: 5, Open: true, Rule: 1}, api.Span{From: 9}), plain(7, open, api.Span{From: 8})
	same(t, "a day between", differ(p, q), "{1 1 8 1 0 true} true")
	same(t, "a day between", differ(q, p), "{1 1 8 1 0 true} true")
	q.Weights[0] = 7
	same(t, "equal policies", differ(q, q), "{0 0 0 0 0 false} false")
	q.Weights[0] = -1
	same(t, "a policy that is not valid", differ(p, q), "{0 0 0 0 0 false} false")
	same(t, "a policy that is not valid", differ(q, p), "{0 0 0 0 0 false} false")
}

// P4.4, day by day.
func TestSinceIsTheFirstDay(t *testing.T) {
	p := compiled(t, "weights 0 0 0\nrule a rank 1: open any if days >= 10 and days < 12 or days >= 99999\nrule b rank 2: leave any if claim and days < 100000\nrule c rank 3: leave any if senders one")
	since := func(f api.Fact) string { return fmt.Sprint(seals.Since(p, f)) }
	for days, want := range map[int]string{0: "10 true", 9: "10 true", 10: "10 true", 11: "11 true", 12: "99999 true", 99999: "99999 true", 100000: "100000 true", -1: "0 false", 100001: "0 false"} {
		same(t, fmt.Sprint("from the day ", days), since(api.Fact{Room: 1, Layer: 1, Days: days}), want)
	}
	same(t, "with a claim", since(api.Fact{Room: 1, Layer: 1, Days: 5, Claim: true}), "100000 true")
	same(t, "never", since(api.Fact{Room: 1, Layer: 1, From: 1}), "0 false")
	same(t, "a fact that is not valid", since(api.Fact{Room: 1, Layer: 4}), "0 false")
	same(t, "no policy", fmt.Sprint(seals.Since(api.Policy{}, api.Fact{Room: 1, Layer: 1})), "0 false")
	same(t, "Apply of no policy", fmt.Sprint(seals.Apply(api.Policy{}, api.Fact{Room: 1, Layer: 1})), "false -1")
}
