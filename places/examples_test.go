package places_test

import (
	"fmt"
	"testing"

	"restante/api"
	"restante/places"
	"restante/reading"
)

// TestExamples has the table of the chapter, row by row.
func TestExamples(t *testing.T) {
	g, l := sample(t), sampleRules()
	equal(t, "Names(2, 50)", g.Names(2, 50), []string{"old haven"})
	equal(t, "Names(2, 150)", g.Names(2, 150), []string{"haven", "old haven"})
	equal(t, "Names(2, 250)", g.Names(2, 250), []string{"haven", "newhaven", "old haven"})
	same(t, "Name(2, 99)", g.Name(2, 99), "old haven")
	same(t, "Name(2, 100)", g.Name(2, 100), "haven")
	same(t, "Name(3, 200)", g.Name(3, 200), "")
	equal(t, "Names(2, 3749)", g.Names(2, 3749), []string{"haven", "newhaven", "old haven"})
	equal(t, "Names(2, 3750)", g.Names(2, 3750), []string{"haven", "newhaven"})
	equal(t, "Path(3, 30)", g.Path(3, 30), []int{1})
	equal(t, "Inside(1, 30)", g.Inside(1, 30), []int{1, 2, 3})
	equal(t, "Inside(1, 200)", g.Inside(1, 200), []int{1, 2})
	same(t, "GoesOn(3, 199)", g.GoesOn(3, 199), 3)
	same(t, "GoesOn(3, 200)", g.GoesOn(3, 200), 2)
	equal(t, "Changes(2)", g.Changes(2), []int{10, 100, 200, 3750})
	equal(t, "Changes(3)", g.Changes(3), []int{20, 200})
	same(t, "Add of 200 move 1 2", g.Add(event(t, "200 move 1 2")), api.ErrLoop)
	same(t, "Add of 199 alias 2 x", g.Add(event(t, "199 alias 2 x")), api.ErrTime)
	same(t, "Add of 200 alias 2 newhaven", g.Add(event(t, "200 alias 2 newhaven")), api.ErrTwice)
	same(t, "Add of 201 rename 3 x", g.Add(event(t, "201 rename 3 x")), api.ErrGone)
	cost, uses, e := places.Written("haven", "hafn", l)
	same(t, "Written(haven, hafn)", fmt.Sprint(cost, uses, e), "5 [{2 0} {3 1}] 0")
	cost, uses, e = places.Written("haven", "hafen", l)
	same(t, "Written(haven, hafen)", fmt.Sprint(cost, uses, e), "2 [{2 0}] 0")
	cost, uses, e = places.Written("haven", "hfen", l)
	same(t, "Written(haven, hfen)", fmt.Sprint(cost, uses, e), "0 [] 5")
	apart, e := places.Apart([]string{"haven"}, []string{"hafn"}, l)
	same(t, "Apart(haven, hafn)", fmt.Sprint(apart, e), "false 0")
	apart, e = places.Apart([]string{"haven"}, []string{"heaven"}, l)
	same(t, "Apart(haven, heaven)", fmt.Sprint(apart, e), "true 0")
	line, e := places.Write(g.Events()[1])
	same(t, "Write of the second event", fmt.Sprint(line, e), "10 found 2 1 old haven0")
	read, e := places.Read("010 move 1 2")
	same(t, "Read(010 move 1 2)", fmt.Sprint(read, e), fmt.Sprint(api.PlaceEvent{}, api.ErrForm))
}

// The third example of DOC.md.
func TestOverMayBeWrittenOfer(t *testing.T) {
	a, e := places.Spelled("over", []api.Spell{{From: "v", To: "f", Cost: 2}})
	same(t, "Spelled", e, api.OK)
	list, e := reading.Best(a, 10)
	same(t, "Best", e, api.OK)
	equal(t, "the spellings", list, []api.Reading{{Text: "over", Cost: 0}, {Text: "ofer", Cost: 2}})
}
