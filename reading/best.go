package reading

import (
	"cmp"
	"container/heap"
	"iter"
	"slices"

	"restante/api"
)

// Best returns the first n strings that an automaton accepts, ordered by their costs and then by their bytes.
func Best(a api.Auto, n int) ([]api.Reading, api.Errno) {
	if n < 0 || n > api.MaxBest {
		return nil, api.ErrArg
	}
	x, e := normalOf(a)
	if e != api.OK {
		return nil, e
	}
	var list []api.Reading
	for r := range readings(x) {
		if len(list) == n {
			break
		}
		list = append(list, r)
	}
	return list, api.OK
}

// branch is a way on from a state: by a letter to the state to, or to the end of the string if to is lost.
type branch struct {
	letter byte
	to     int
	cost   int // of the way alone
	least  int // of the way and what follows
}

// branches returns the ways on from a state, in the order of the readings that they lead to.
func (g *graph) branches(state int) []branch {
	var list []branch
	if end := g.end[state]; end < never {
		list = append(list, branch{to: lost, cost: end, least: end})
	}
	for _, arc := range g.out[state] {
		list = append(list, branch{letter: arc.Letter, to: arc.To, cost: arc.Cost, least: arc.Cost + g.rest[arc.To]})
	}
	slices.SortStableFunc(list, func(b, c branch) int { return cmp.Compare(b.least, c.least) })
	return list
}

// lead stands for the readings that begin with text, or for the reading text alone if whole is true.
type lead struct {
	least int // the least cost of these readings
	text  string
	whole bool
	spent int      // the cost of the text without its last way
	ways  []branch // the last way of the text, and those that come after it
}

// leadOf returns the lead that goes the first one of some ways behind a text.
func leadOf(text string, spent int, ways []branch) lead {
	first := ways[0]
	l := lead{least: spent + first.least, text: text, whole: first.to == lost, spent: spent, ways: ways}
	if !l.whole {
		l.text += string([]byte{first.letter})
	}
	return l
}

// before is the text without the last way.
func (l lead) before() string {
	if l.whole {
		return l.text
	}
	return l.text[:len(l.text)-1]
}

// readings returns the readings of a normal form, ordered by their costs and then by their bytes.
func readings(g *graph) iter.Seq[api.Reading] {
	return func(yield func(api.Reading) bool) {
		if g.empty() {
			return
		}
		queue := &leads{leadOf("", 0, g.branches(0))}
		for queue.Len() > 0 {
			l := heap.Pop(queue).(lead)
			// The next way waits until this one was the first of all: so the queue stays short.
			if len(l.ways) > 1 {
				heap.Push(queue, leadOf(l.before(), l.spent, l.ways[1:]))
			}
			if !l.whole {
				heap.Push(queue, leadOf(l.text, l.spent+l.ways[0].cost, g.branches(l.ways[0].to)))
			} else if !yield(api.Reading{Text: l.text, Cost: l.least}) {
				return
			}
		}
	}
}

// leads is a heap of leads, that with the first reading on top.
type leads []lead

func (q leads) Len() int      { return len(q) }
func (q leads) Swap(i, j int) { q[i], q[j] = q[j], q[i] }

func (q leads) Less(i, j int) bool {
	if q[i].least != q[j].least {
		return q[i].least < q[j].least
	}
	return q[i].text < q[j].text
}

func (q *leads) Push(x any) { *q = append(*q, x.(lead)) }

func (q *leads) Pop() any {
	last := len(*q) - 1
	l := (*q)[last]
	*q = (*q)[:last]
	return l
}
