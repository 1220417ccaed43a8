package seals

import "restante/api"

const (
	lefts    = 3 // how many values To and From have
	rowCount = api.MaxRooms * api.MaxLayers * lefts * lefts * 2
)

// factOfRow returns the fact of the row with an index, on the day 0.
func factOfRow(i int) api.Fact {
	f := api.Fact{Claim: i%2 == 1}
	i /= 2
	f.From = uint8(i % lefts)
	i /= lefts
	f.To = uint8(i % lefts)
	i /= lefts
	f.Layer, f.Room = i%api.MaxLayers+1, i/api.MaxLayers+1
	return f
}

// rowOfFact returns the index of the row of a valid fact.
func rowOfFact(f api.Fact) int {
	i := (f.Room-1)*api.MaxLayers + f.Layer - 1
	i = (i*lefts+int(f.To))*lefts + int(f.From)
	if f.Claim {
		return 2*i + 1
	}
	return 2 * i
}

// CheckPolicy returns ErrArg if a policy is not valid.
func CheckPolicy(p api.Policy) api.Errno {
	if !validWeights(p.Weights) || len(p.Rows) != rowCount {
		return api.ErrArg
	}
	for i, row := range p.Rows {
		f := api.Fact{Room: row.Room, Layer: row.Layer, To: row.To, From: row.From, Claim: row.Claim}
		if f != factOfRow(i) || !validSpans(row.Spans) {
			return api.ErrArg
		}
	}
	return api.OK
}

func validSpans(spans []api.Span) bool {
	if len(spans) == 0 || spans[0].From != 0 {
		return false
	}
	for i, x := range spans {
		if x.From > api.MaxDay || !within(x.Rule, -1, api.MaxRules-1) || x.Open && x.Rule == -1 {
			return false
		}
		if i > 0 && !follows(x, spans[i-1]) {
			return false
		}
	}
	return true
}

// follows reports whether a span may stand behind another one.
func follows(x, before api.Span) bool {
	return x.From > before.From && (x.Open != before.Open || x.Rule != before.Rule)
}

// untilOf returns the day before which a span with an index ends.
func untilOf(spans []api.Span, i int) int {
	if i+1 < len(spans) {
		return spans[i+1].From
	}
	return api.MaxDay + 1
}

// decisionAt returns the span of a valid policy that holds at a valid fact.
func decisionAt(p api.Policy, f api.Fact) api.Span {
	spans, i := p.Rows[rowOfFact(f)].Spans, 0
	for untilOf(spans, i) <= f.Days {
		i++
	}
	return spans[i]
}

// Apply returns the decision of a policy at a fact.
func Apply(p api.Policy, f api.Fact) (bool, int) {
	if CheckPolicy(p) != api.OK || !validFact(f) {
		return false, -1
	}
	span := decisionAt(p, f)
	return span.Open, span.Rule
}

// Differ returns the first fact at which two policies decide differently.
func Differ(p, q api.Policy) (api.Fact, bool) {
	if CheckPolicy(p) != api.OK || CheckPolicy(q) != api.OK {
		return api.Fact{}, false
	}
	for i := range rowCount {
		if day, found := parting(p.Rows[i].Spans, q.Rows[i].Spans); found {
			f := factOfRow(i)
			f.Days = day
			return f, true
		}
	}
	return api.Fact{}, false
}

// parting returns the first day on which the spans of two rows differ in Open.
func parting(a, b []api.Span) (int, bool) {
	for i, j := 0, 0; i < len(a) && j < len(b); {
		if a[i].Open != b[j].Open {
			return max(a[i].From, b[j].From), true
		}
		until := min(untilOf(a, i), untilOf(b, j))
		if untilOf(a, i) == until {
			i++
		}
		if untilOf(b, j) == until {
			j++
		}
	}
	return 0, false
}

// Since returns the least number of days, from that of the fact on, with which the decision of a policy at the fact is true.
func Since(p api.Policy, f api.Fact) (int, bool) {
	if CheckPolicy(p) != api.OK || !validFact(f) {
		return 0, false
	}
	spans := p.Rows[rowOfFact(f)].Spans
	for i, x := range spans {
		if x.Open && untilOf(spans, i) > f.Days {
			return max(x.From, f.Days), true
		}
	}
	return 0, false
}
