package desk_test

import (
	"fmt"
	"math/rand"
	"slices"
	"testing"

	"restante/api"
)

// trial is a command that may be interrupted in an office, and what has to be done before it.
type trial struct {
	name    string
	office  int
	prepare func(w *walker)
	do      func(w *walker)
}

// sent returns a thing of the person 3 for the person 4, which can only be returned behind looks.
func sent(id int) api.Thing {
	return api.Thing{Id: id, Layers: []api.Layer{{}, {Pieces: []api.Piece{piece(api.PieceFromName, "bob lee")}, Goods: []api.Amount{{Unit: "mark", N: 2}}}}}
}

// trials returns all commands, each in a state in which it succeeds. The thing 7 is in the room 1 of the office 0 at first.
func trials() []trial {
	nothing := func(w *walker) {}
	works := func(n int) func(w *walker) {
		return func(w *walker) {
			for range n {
				w.work(0, 7)
			}
		}
	}
	shipped := func(w *walker) {
		works(2)(w)
		w.ship(0, 7, 1)
		w.offer(0)
	}
	received := func(w *walker) {
		shipped(w)
		w.carry(0, 1, 0)
	}
	forfeited := func(w *walker) {
		works(2)(w)
		w.day(40)
		w.work(0, 7)
	}
	returned := func(w *walker) {
		w.arrive(0, 2, sent(8))
		w.work(0, 8)
	}
	return []trial{
		{"rules", 0, nothing, func(w *walker) { w.rules(0, sources()[1]) }},
		{"publish", 0, nothing, func(w *walker) { w.publish(0, "people 0 death 1 5") }},
		{"unit", 0, nothing, func(w *walker) { w.money(0, "unit gem 3") }},
		{"value", 0, nothing, func(w *walker) { w.money(0, "value mark 480") }},
		{"term", 0, nothing, func(w *walker) { w.money(0, "term crown 1 3") }},
		{"convert", 0, works(2), func(w *walker) { w.money(0, "convert 1 mark 2") }},
		{"arrive", 0, nothing, func(w *walker) { w.arrive(0, 2, letter(8, "cat", "south")) }},
		{"look at the cover", 0, nothing, works(1)},
		{"look at the enclosure", 0, works(1), works(1)},
		{"deliver", 0, works(2), works(1)},
		{"deliver without goods", 0, func(w *walker) { forfeited(w); w.arrive(0, 3, letter(9, "cat", "south")); w.work(0, 9) }, func(w *walker) { w.work(0, 9) }},
		{"return", 0, returned, func(w *walker) { w.work(0, 8) }},
		{"keep", 0, func(w *walker) { w.arrive(0, 2, api.Thing{Id: 8, Layers: make([]api.Layer, 2)}) }, func(w *walker) { w.work(0, 8) }},
		{"hand", 0, works(1), func(w *walker) { w.hand(0, 7, 5) }},
		{"ship", 0, works(2), func(w *walker) { w.ship(0, 7, 1) }},
		{"ship a closed thing", 0, nothing, func(w *walker) { w.ship(0, 7, 1) }},
		{"carry a bag", 1, shipped, func(w *walker) { w.carry(0, 1, 0) }},
		{"carry a bag again", 1, func(w *walker) { received(w); w.offer(0) }, func(w *walker) { w.carry(0, 1, 0) }},
		{"carry an acknowledgement", 0, received, func(w *walker) { w.carry(1, 0, 0) }},
		{"carry an acknowledgement of a closed thing", 0, func(w *walker) { w.ship(0, 7, 1); w.offer(0); w.carry(0, 1, 0) }, func(w *walker) { w.carry(1, 0, 0) }},
		{"unpack", 1, received, func(w *walker) { w.unpack(1, 7, 4) }},
		{"burn", 0, works(2), func(w *walker) { w.burn(0, 7) }},
		{"claim", 0, nothing, func(w *walker) { w.claim(0, 3, 7, 1) }},
		{"answer", 0, func(w *walker) { works(3)(w); w.claim(0, 1, 7, 3) }, func(w *walker) { w.answer(0, 1) }},
		{"refund", 0, forfeited, func(w *walker) { w.refund(0, 7, 1) }},
	}
}

// startTrial returns a walker that is prepared for a trial.
func startTrial(t *testing.T, r *rand.Rand, x trial, sectors int) *walker {
	t.Helper()
	w := newWalker(t, r, api.Config{Offices: 2, Sectors: sectors, Salt: 3})
	w.quiet, w.ids = true, []int{7, 8, 9}
	for q := range 2 {
		w.rules(q, openRules)
		for _, line := range firstLines() {
			w.publish(q, line)
		}
		for _, line := range []string{"unit crown 1", "value crown 240", "term crown 1 30", "unit mark 1", "value mark 160", "unit ring 3"} {
			w.money(q, line)
		}
	}
	w.arrive(0, 1, letter(7, "ann lee", "ayton"))
	x.prepare(w)
	w.quiet = false
	return w
}

// goOn does what may follow, so that all that a desk has is seen.
func (w *walker) goOn() {
	for range 2 {
		for q := range w.model().offices {
			w.offer(q)
			for i := range 3 {
				w.carry(q, 1-q, i)
				w.carry(q, 1-q, 0)
			}
		}
	}
	w.day(w.d.Today() + 3)
	w.arrive(0, 2, letter(9, "cat", "south"))
	w.claim(0, 1, 7, 1)
	for q := range w.model().offices {
		w.money(q, "unit gem 1")
		w.money(q, "convert 1 mark 2")
		for _, id := range w.ids {
			w.unpack(q, id, 3)
			w.work(q, id)
			w.hand(q, id, 6)
			w.work(q, id)
			w.burn(q, id)
		}
	}
	w.answer(0, 1)
	w.refund(0, 7, 1)
	w.check()
}

// All commands succeed in their trials, and a crash behind them changes nothing.
func TestTrials(t *testing.T) {
	t.Parallel()
	for _, x := range trials() {
		w := startTrial(t, rand.New(rand.NewSource(1)), x, api.MaxSectors)
		before := questions(w.d, 2, 7, 8, 9)
		x.do(w)
		if last := w.log[len(w.log)-1]; last[len(last)-1] != '0' {
			t.Fatal(x.name, last)
		}
		after := questions(w.d, 2, 7, 8, 9)
		isSilent := slices.Contains([]string{"unit", "value", "term", "carry a bag again", "carry an acknowledgement of a closed thing"}, x.name)
		same(t, x.name+" changes nothing", after == before, isSilent)
		w.crash(x.office, nil)
		same(t, x.name, questions(w.d, 2, 7, 8, 9), after)
		w.goOn()
	}
}

// The power fails at each call of the disk in each command, and the crash keeps any parts of what was written.
func TestFaults(t *testing.T) {
	for _, x := range trials() {
		t.Run(x.name, func(t *testing.T) {
			t.Parallel()
			r := rand.New(rand.NewSource(7))
			interrupted := 0
			for calls := 0; ; calls++ {
				isDown := false
				for _, keep := range [][]int{nil, {64, 64, 64, 64, 64, 64, 64, 64, 64, 64, 64, 64, 64, 64, 64, 64, 64, 64, 64, 64}, {r.Intn(65), r.Intn(65), r.Intn(65)}} {
					w := startTrial(t, r, x, api.MaxSectors)
					w.stop(x.office, calls)
					x.do(w)
					isDown = w.model().down[x.office]
					if isDown {
						interrupted++
						w.downNow(x.office)
					}
					w.crash(x.office, keep)
					w.goOn()
				}
				if !isDown {
					break
				}
			}
			// What writes nothing cannot be interrupted.
			same(t, fmt.Sprint(x.name, " is interrupted: ", interrupted), interrupted > 0, x.name != "carry a bag again")
		})
	}
}

// downNow looks whether an office that is down refuses everything.
func (w *walker) downNow(office int) {
	w.rules(office, openRules)
	w.publish(office, firstLines()[0])
	w.money(office, "unit gem 1")
	w.arrive(office, 1, letter(9, "cat", "south"))
	w.arrive(1-office, 1, letter(9, "cat", "south"))
	w.work(office, 7)
	w.hand(office, 7, 2)
	w.ship(office, 7, 1-office)
	w.offer(office)
	w.repeat(1-office, office, 0)
	w.carry(1-office, office, 0)
	w.unpack(office, 7, 1)
	w.burn(office, 7)
	w.claim(office, 1, 7, 1)
	w.claim(1-office, 1, 7, 1)
	w.answer(office, 1)
	w.answer(1-office, 1)
	w.refund(office, 7, 1)
	w.stop(office, 1)
}
