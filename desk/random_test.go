package desk_test

import (
	"fmt"
	"maps"
	"math/rand"
	"slices"
	"testing"

	"restante/api"
)

// sources are rules, of which the last ones are not accepted.
func sources() []string {
	return []string{
		openRules,
		"weights 0 20 60\nrule cover rank 1: open 1 if always\nrule late rank 2: open any if days >= 2\nrule claim rank 3: open any if claim\n",
		"weights 5 1 0\nrule cover rank 1: open any if addressees many or senders many\nrule shut rank 2: leave 3 if room 2 and not claim\n",
		"weights 0 0 0\nrule cover rank 1: open 1 if always\nrule two rank 3: open 2 if room 1 or room 3\nrule three rank 4: open 3 if days >= 1\n",
		"weights 1 2 3\n",
		"",
		"weights 1 2 1001\n",
		"weights 1 2 3\nrule a rank 1: open 1 if always\nrule b rank 1: leave any if claim\n",
	}
}

// someLine returns a line of the books that may come in later, or be refused.
func someLine(r *rand.Rand, day int) string {
	n := func() int { return 1 + r.Intn(4) }
	return pick(r,
		fmt.Sprintf("people %d redirect %d %d 0 %d 0 %d 0", day, 1+r.Intn(50), n(), n(), day),
		fmt.Sprintf("people %d redirect %d %d 0 %d 5 %d 0", day, 1+r.Intn(50), n(), n(), day),
		fmt.Sprintf("people %d live %d 5 0 0", day, n()),
		fmt.Sprintf("people %d death %d %d", day, n(), day),
		fmt.Sprintf("people %d heir %d %d %d 0", day, n(), n(), day),
		fmt.Sprintf("people %d refuse %d 0 %d %d 0", day, n(), r.Intn(4), day),
		fmt.Sprintf("people %d name %d 0 0 bob lee", day, n()),
		fmt.Sprintf("people %d live %d %d 0 0", day, n(), n()),
		fmt.Sprintf("place %d merge %d %d", day, n(), n()),
		fmt.Sprintf("place %d rename %d new ton", day, n()),
		"spell 1 a/e", "spell 0 a/e", "hello", "", fmt.Sprintf("people %d death 9 9 9", day))
}

// someMoney returns a line about money that may be refused.
func someMoney(r *rand.Rand) string {
	unit := pick(r, "crown", "crown", "mark", "mark", "ring", "gold coin", "gem", "")
	return pick(r,
		fmt.Sprintf("unit %s %d", pick(r, "crown", "mark", "ring", "gold coin", "", " a"), r.Intn(5)),
		fmt.Sprintf("value %s %d", unit, pick(r, 0, 1, 2, 80, 160, 240, 100001)),
		fmt.Sprintf("term %s %d %d", unit, pick(r, 0, 1, 2, 3, 4), pick(r, 0, 1, 2, 5, 40001)),
		fmt.Sprintf("convert %d %s %d", 1+r.Intn(6), unit, pick(r, 0, 1, 2, 3, 5)),
		fmt.Sprintf("convert %d %s %d", 1+r.Intn(6), unit, pick(r, 1, 2, 3)),
		"unit crown", "value 1", "term a 1", "term  1 2", "convert 1 2", "unit crown 01", "value crown 10000000000", "value  9999999999", "unit  1", "coin a 1", "")
}

func randomThing(r *rand.Rand, id, day int) api.Thing {
	x := api.Thing{Id: id, Day: max(0, day-r.Intn(3))}
	texts := []string{"", "ann lee", "(a|b)(n|o)(n|b) lee", "bob lee", "cat", "ayton", "ay(t|f:1)o(n|rd:1)", "aiton", "north", "south", "(n|s)o(r|u)th"}
	var pieces []api.Piece
	if r.Intn(4) > 0 { // a name and a place, with which a person may be found
		role := uint8(3 * r.Intn(2))
		pieces = append(pieces, piece(role+api.PieceToName, pick(r, texts[1:5]...)), piece(role+api.PieceToPlace, pick(r, texts[5:7]...)))
	}
	for range r.Intn(4) {
		kind := uint8(1 + r.Intn(6))
		pieces = append(pieces, piece(kind, pick(r, pick(r, texts...), pick(r, texts[[]int{1, 5, 8}[(kind-1)%3]:][:3]...))))
	}
	x.Layers = make([]api.Layer, 1+r.Intn(3))
	for _, p := range pieces {
		layer := &x.Layers[r.Intn(len(x.Layers))]
		layer.Pieces = append(layer.Pieces, p)
	}
	for i := range x.Layers {
		for _, unit := range []string{"crown", "gem", "gold coin", "mark", "ring"} {
			if r.Intn(3) == 0 && (unit != "gem" || r.Intn(8) == 0) {
				x.Layers[i].Goods = append(x.Layers[i].Goods, api.Amount{Unit: unit, N: pick(r, 1, 2, 3, 20)})
			}
		}
	}
	return x
}

// number returns a number that is mostly from least to most.
func (w *walker) number(least, most int) int {
	switch w.r.Intn(40) {
	case 0:
		return pick(w.r, extremes()...)
	case 1:
		return pick(w.r, least-1, most+1)
	}
	return least + w.r.Intn(most-least+1)
}

func (w *walker) office() int { return w.number(0, len(w.model().offices)-1) }

// place returns an office and a thing, which it mostly has.
func (w *walker) place() (int, int) {
	var list [][2]int
	for q, o := range w.model().offices {
		for _, id := range slices.Sorted(maps.Keys(o.things)) {
			list = append(list, [2]int{q, id})
		}
	}
	if len(list) == 0 || w.r.Intn(20) == 0 {
		return w.office(), w.number(1, 12)
	}
	x := pick(w.r, list...)
	return x[0], x[1]
}

// line returns a line of the network and an index there; mostly there is a message.
func (w *walker) line() (int, int, int) {
	m := w.model()
	var busy [][2]int
	for from := range m.offices {
		for to := range m.offices {
			if len(m.lines[from][to]) > 0 {
				busy = append(busy, [2]int{from, to})
			}
		}
	}
	if len(busy) == 0 || w.r.Intn(20) == 0 {
		return w.office(), w.office(), w.number(0, 2)
	}
	x := pick(w.r, busy...)
	return x[0], x[1], w.number(0, len(m.lines[x[0]][x[1]])-1)
}

// move brings a thing to somewhere else, or a message.
func (w *walker) move() {
	office, thing := w.place()
	switch w.r.Intn(14) {
	case 0, 1:
		w.hand(office, thing, w.number(1, 8))
	case 2, 3:
		to := w.office()
		if n := len(w.model().offices); n > 1 && to == office {
			to = (to + 1) % n
		}
		w.ship(office, thing, to)
	case 4, 5:
		w.offer(w.office())
	case 6, 7, 8, 9, 12, 13:
		w.carry(w.line())
		for q := range w.model().offices { // so that the lines are not empty for long
			w.offer(q)
		}
	case 10:
		w.lose(w.line())
	case 11:
		w.repeat(w.line())
	}
}

// fault lets the power fail, or an office crash.
func (w *walker) fault() {
	office := w.office()
	if w.r.Intn(2) == 0 {
		w.stop(office, w.number(0, 25))
		return
	}
	var keep []int
	for range w.r.Intn(12) {
		keep = append(keep, pick(w.r, -1, 0, 1, 63, 64, 65, w.r.Intn(64), pick(w.r, extremes()...)))
	}
	w.crash(office, keep)
}

// ask makes a claim, answers one, or asks for a refund.
func (w *walker) ask() {
	office, thing := w.place()
	var claims, parties [][3]int
	for q, o := range w.model().offices {
		for _, r := range o.journal {
			switch {
			case r.Kind == api.RecClaim:
				claims = append(claims, [3]int{q, r.N})
			case r.Kind == api.RecVerdict && r.Person != 0:
				parties = append(parties, [3]int{q, r.Thing, r.Person})
			}
		}
	}
	switch n := w.r.Intn(6); {
	case n == 0 && len(parties) > 0:
		x := pick(w.r, parties...)
		w.claim(x[0], x[2], x[1], uint8(w.number(1, 3)))
	case n < 2:
		w.claim(office, w.number(1, 4), thing, uint8(w.number(1, 3)))
	case n < 4 && len(claims) > 0:
		x := pick(w.r, claims...)
		w.answer(x[0], x[1])
	case n == 4:
		w.answer(office, w.number(1, 3))
	case len(parties) > 0 && w.r.Intn(4) > 0:
		x := pick(w.r, parties...)
		w.refund(x[0], x[1], x[2])
	default:
		w.refund(office, w.number(1, 12), w.number(1, 4))
	}
}

// step does something.
func (w *walker) step() {
	r := w.r
	if q := slices.Index(w.model().down, true); q >= 0 && r.Intn(6) == 0 {
		w.crash(q, []int{r.Intn(65), 64, r.Intn(65)})
	}
	office, thing := w.place()
	isAtDoor := false
	if w.model().isOffice(office) {
		isAtDoor = w.model().offices[office].things[thing].door
	}
	switch n := r.Intn(80); {
	case n < 3:
		w.day(pick(r, w.model().today+1, w.model().today+2, w.model().today+1+r.Intn(4), w.model().today, w.model().today-1, pick(r, 100001, -1)))
	case n < 4:
		w.rules(office, pick(r, sources()...))
	case n < 6:
		w.publish(office, someLine(r, pick(r, w.model().today, w.model().today+2)))
	case n < 10:
		w.money(office, someMoney(r))
	case n < 16:
		w.arrive(office, w.number(1, 8), randomThing(r, w.number(1, 12), w.number(0, w.model().today+1)))
	case n < 22:
		w.ask()
	case n < 25:
		w.fault()
	case n < 44:
		w.move()
	case n < 45:
		w.burn(office, thing)
	case n < 46 || isAtDoor && r.Intn(8) > 0:
		w.unpack(office, thing, w.number(1, 8))
	default:
		w.work(office, thing)
	}
}

// furnish gives the offices rules, books and units; some lack something.
func (w *walker) furnish() {
	for q := range w.model().offices {
		if w.r.Intn(6) > 0 {
			w.rules(q, pick(w.r, openRules, openRules, pick(w.r, sources()[:4]...)))
		}
		for _, line := range firstLines() {
			w.publish(q, line)
		}
		for _, line := range []string{"unit crown 1", "value crown 240", "unit mark 1", "value mark 160", "unit ring 3", "unit gold coin 2", "term crown 1 2", "term mark 3 4"} {
			if w.r.Intn(20) > 0 {
				w.money(q, line)
			}
		}
	}
}

// P9.1 to P9.4, P9.6, P9.7: any commands on any desk, with faults, compared with a model without disks.
func TestRandomDesks(t *testing.T) {
	for seed := range int64(80) {
		t.Run(fmt.Sprint(seed), func(t *testing.T) {
			t.Parallel()
			r := rand.New(rand.NewSource(seed))
			w := newWalker(t, r, api.Config{Offices: pick(r, 1, 2, 2, 3, 3, 4), Sectors: pick(r, 1000, 65536, 65536), Salt: pick(r, 0, 7, api.MaxDeskSalt)})
			w.furnish()
			for i := range 150 {
				w.step()
				if i%10 == 9 {
					w.check()
				}
			}
		})
	}
}
