package people_test

import (
	"fmt"
	"testing"

	"restante/api"
	"restante/people"
)

// TestExamples has the table of the chapter, row by row.
func TestExamples(t *testing.T) {
	l := sample(t)
	follow := func(l []api.Entry, c pair, sender, day int) string {
		r, e := people.Follow(l, c, sender, day)
		return fmt.Sprint(r, e)
	}
	equal(t, "Places(l, 1, 49)", people.Places(l, 1, 49), []int{7})
	equal(t, "Places(l, 1, 50)", people.Places(l, 1, 50), []int{9})
	equal(t, "Places(Known(l, 39), 1, 50)", people.Places(people.Known(l, 39), 1, 50), nil)
	same(t, "day 40", follow(l, pair{Person: 1, Place: 7}, 0, 40), "{1 {1 7} [] 0} 0")
	same(t, "day 55", follow(l, pair{Person: 1, Place: 7}, 0, 55), "{1 {1 9} [{1 {1 7} {1 9} 5}] 0} 0")
	same(t, "day 80", follow(l, pair{Person: 1, Place: 7}, 0, 80), "{4 {1 7} [] 0} 0")
	same(t, "day 65", follow(l, pair{Person: 2, Place: 8}, 0, 65), "{1 {1 9} [{2 {2 8} {1 9} 0}] 0} 0")
	same(t, "sender 2", follow(l, pair{Person: 1, Place: 9}, 2, 72), "{2 {1 9} [] 0} 0")
	same(t, "sender 0", follow(l, pair{Person: 1, Place: 9}, 0, 72), "{1 {1 9} [] 0} 0")
	l, e := people.Append(l, entry(t, "80 redirect 6 1 9 1 7 80 0"))
	same(t, "Append", e, api.OK)
	x, found := people.Order(l, pair{Person: 1, Place: 9}, 80)
	same(t, "Order", fmt.Sprint(x.Order, found), "6 true")
	l, e = people.Append(l, entry(t, "80 redirect 7 1 7 1 9 80 0"))
	same(t, "Append", e, api.OK)
	same(t, "a circle", follow(l, pair{Person: 1, Place: 7}, 0, 80), "{6 {1 7} [{1 {1 7} {1 9} 7} {1 {1 9} {1 7} 6}] 0} 0")
	loops, e := people.Loops(l, 80)
	same(t, "Loops", fmt.Sprint(loops, e), "[[{1 7} {1 9}]] 0")
	for line, want := range map[string]api.Errno{"80 death 2 80": api.ErrTwice, "80 cancel 9 80": api.ErrNone, "79 live 3 1 0 0": api.ErrNone} {
		longer, e := people.Append(sample(t), entry(t, line))
		same(t, "Append of "+line, fmt.Sprint(len(longer), e), fmt.Sprint(0, want))
	}
	read, e := people.Read("0 live 1 7 0 050")
	same(t, "Read", fmt.Sprint(read == api.Entry{}, e), fmt.Sprint(true, api.ErrForm))
}
