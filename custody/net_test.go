package custody_test

import (
	"fmt"
	"math"
	"math/rand"
	"slices"
	"strings"
	"testing"

	"restante/api"
	"restante/custody"
)

func newNet(t *testing.T, offices int) *custody.Net {
	t.Helper()
	n, e := custody.NewNet(offices)
	same(t, "NewNet", e, api.OK)
	return n
}

// G10
func TestNewNet(t *testing.T) {
	for _, offices := range []int{math.MinInt, -1, 0, 9, math.MaxInt} {
		if n, e := custody.NewNet(offices); n != nil || e != api.ErrArg {
			t.Errorf("NewNet(%d): %d", offices, e)
		}
	}
	for offices := 1; offices <= 8; offices++ {
		n := newNet(t, offices)
		for from := -1; from <= 9; from++ {
			for to := -1; to <= 9; to++ {
				want := api.OK
				if from == to || min(from, to) < 0 || max(from, to) >= offices {
					want = api.ErrArg
				}
				same(t, "Waiting", n.Waiting(from, to), 0)
				same(t, "Send", n.Send(from, to, "m"), want)
				same(t, "Waiting", n.Waiting(from, to) == 1, want == api.OK)
			}
		}
	}
}

// G11: the limits, and the order of the errors.
func TestSendLimits(t *testing.T) {
	n := newNet(t, 2)
	long := strings.Repeat("m", 60001)
	same(t, "to itself", n.Send(1, 1, long), api.ErrArg)
	same(t, "no office", n.Send(0, 2, long), api.ErrArg)
	same(t, "no office", n.Send(math.MinInt, 0, long), api.ErrArg)
	same(t, "too long", n.Send(0, 1, long), api.ErrLimit)
	for i := range 100 {
		same(t, "Waiting", n.Waiting(0, 1), i)
		same(t, "Send", n.Send(0, 1, long[1:]), api.OK)
	}
	same(t, "too long", n.Send(0, 1, long), api.ErrLimit)
	same(t, "full", n.Send(0, 1, ""), api.ErrFull)
	same(t, "full", n.Repeat(0, 1, 99), api.ErrFull)
	same(t, "no message", n.Repeat(0, 1, 100), api.ErrNone)
	same(t, "the line back", n.Send(1, 0, ""), api.OK)
	same(t, "Lose", n.Lose(0, 1, 99), api.OK)
	same(t, "Repeat", n.Repeat(0, 1, 0), api.OK)
	same(t, "Waiting", n.Waiting(0, 1), 100)
}

// R5
func TestNilNet(t *testing.T) {
	var n *custody.Net
	same(t, "Send", n.Send(0, 0, strings.Repeat("m", 60001)), api.ErrNil)
	same(t, "Waiting", n.Waiting(0, 1), 0)
	m, e := n.Take(0, 1, 0)
	same(t, "Take", fmt.Sprint(m, e), "3")
	same(t, "Lose", n.Lose(0, 1, 0), api.ErrNil)
	same(t, "Repeat", n.Repeat(0, 1, 0), api.ErrNil)
}

// plainNet is a network as the chapter describes it.
type plainNet struct {
	offices int
	lines   map[[2]int][]string
}

func (n *plainNet) isLine(from, to int) bool {
	return from != to && 0 <= from && from < n.offices && 0 <= to && to < n.offices
}

func (n *plainNet) send(from, to int, m string) api.Errno {
	l := [2]int{from, to}
	switch {
	case !n.isLine(from, to):
		return api.ErrArg
	case len(m) > 60000:
		return api.ErrLimit
	case len(n.lines[l]) == 100:
		return api.ErrFull
	}
	n.lines[l] = append(n.lines[l], m)
	return api.OK
}

func (n *plainNet) take(from, to, index int) (string, api.Errno) {
	l := [2]int{from, to}
	if index < 0 || index >= len(n.lines[l]) {
		return "", api.ErrNone
	}
	m := n.lines[l][index]
	n.lines[l] = slices.Concat(n.lines[l][:index], n.lines[l][index+1:])
	return m, api.OK
}

func (n *plainNet) repeat(from, to, index int) api.Errno {
	l := [2]int{from, to}
	if index < 0 || index >= len(n.lines[l]) {
		return api.ErrNone
	}
	return n.send(from, to, n.lines[l][index])
}

// G11, G12: a network does what its oracle does.
func TestNetsLikeTheirOracle(t *testing.T) {
	for seed := range int64(40) {
		r := rand.New(rand.NewSource(seed))
		offices := 1 + r.Intn(8)
		n, o := newNet(t, offices), &plainNet{offices: offices, lines: map[[2]int][]string{}}
		numbers := []int{0, 0, 0, 1, 1, 1, 2, 7, 8, -1, math.MaxInt, math.MinInt}
		for range 2000 {
			from, to := pick(r, numbers...), pick(r, numbers...)
			index := pick(r, 0, 1, n.Waiting(from, to)-1, n.Waiting(from, to), r.Intn(100), -1, math.MaxInt, math.MinInt)
			m := fmt.Sprint(r.Intn(1000))
			switch r.Intn(9) {
			case 0:
				got, e := n.Take(from, to, index)
				want, f := o.take(from, to, index)
				same(t, "Take", fmt.Sprint(got, e), fmt.Sprint(want, f))
			case 1:
				_, f := o.take(from, to, index)
				same(t, "Lose", n.Lose(from, to, index), f)
			case 2, 3:
				same(t, "Repeat", n.Repeat(from, to, index), o.repeat(from, to, index))
			default:
				same(t, "Send", n.Send(from, to, m), o.send(from, to, m))
			}
			same(t, "Waiting", n.Waiting(from, to), len(o.lines[[2]int{from, to}]))
		}
		for l, messages := range o.lines {
			for _, want := range messages {
				m, e := n.Take(l[0], l[1], 0)
				same(t, "Take", fmt.Sprint(m, e), want+"0")
			}
			same(t, "Waiting", n.Waiting(l[0], l[1]), 0)
		}
	}
}
