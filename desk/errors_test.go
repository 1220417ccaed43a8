package desk_test

import (
	"fmt"
	"math"
	"math/rand"
	"strings"
	"testing"

	"restante/api"
	"restante/desk"
)

// tangled returns a walker with three offices: the office 1 knows no units, the office 2 no rules. The thing 7 is in a room of the office 0, 8 at the door of the office 1, with lots; 9 at the door of the office 2, 10 in a room there, 11 in one of the office 1; 12 is lost, 13 in a bag, 14 was delivered, and some of its goods were forfeited.
func tangled(t *testing.T) *walker {
	t.Helper()
	w := newWalker(t, rand.New(rand.NewSource(1)), api.Config{Offices: 3, Sectors: api.MaxSectors, Salt: 3})
	w.quiet, w.ids = true, []int{7, 8, 9, 10, 11, 12, 13, 14}
	for q := range 3 {
		if q != 2 {
			w.rules(q, openRules)
		}
		for _, line := range firstLines() {
			w.publish(q, line)
		}
		for _, line := range []string{"unit crown 1", "value crown 240", "unit mark 1", "value mark 160", "unit ring 3"} {
			if q != 1 {
				w.money(q, line)
			}
		}
	}
	w.money(0, "term crown 1 2")
	w.arrive(0, 1, letter(14, "ann lee", "ayton"))
	w.work(0, 14)
	w.work(0, 14)
	w.day(3)
	w.work(0, 14)
	for id := 7; id <= 13; id++ {
		w.arrive(map[int]int{10: 2, 11: 1}[id], 1+id%3, letter(id, "ann lee", "ayton"))
	}
	for _, id := range []int{7, 8} {
		w.work(0, id)
		w.work(0, id)
	}
	w.ship(0, 8, 1)
	w.ship(0, 9, 2)
	w.offer(0)
	w.carry(0, 1, 0)
	w.carry(0, 2, 0)
	w.ship(0, 13, 1)
	w.offer(0)
	w.burn(0, 12)
	w.claim(0, 1, 7, 1)
	w.claim(0, 1, 8, 2)
	w.answer(0, 2)
	w.quiet = false
	w.offer(1)
	return w
}

// lower lets an office go down.
func (w *walker) lower(office int) {
	w.stop(office, 0)
	w.claim(office, 1, 1, 1)
	same(w.t, "the office is down", w.model().down[office], true)
}

// calls are the methods with an office and two more numbers.
func calls() map[string]func(w *walker, office, a, b int) {
	return map[string]func(w *walker, office, a, b int){
		"Work":   func(w *walker, office, a, b int) { w.work(office, a) },
		"Hand":   (*walker).hand,
		"Ship":   (*walker).ship,
		"Offer":  func(w *walker, office, a, b int) { w.offer(office) },
		"Carry":  (*walker).carry,
		"Lose":   (*walker).lose,
		"Repeat": (*walker).repeat,
		"Unpack": (*walker).unpack,
		"Burn":   func(w *walker, office, a, b int) { w.burn(office, a) },
		"Stop":   func(w *walker, office, a, b int) { w.stop(office, b) },
		"Crash":  func(w *walker, office, a, b int) { w.crash(office, []int{a, b}) },
		"Claim":  func(w *walker, office, a, b int) { w.claim(office, b, a, 1) },
		"Answer": func(w *walker, office, a, b int) { w.answer(office, b) },
		"Refund": (*walker).refund,
		"Show":   func(w *walker, office, a, b int) { w.show(office, b) },
		"Rules":  func(w *walker, office, a, b int) { w.rules(office, pick(w.r, sources()...)) },
		"Money":  func(w *walker, office, a, b int) { w.money(office, fmt.Sprintf("convert %d crown %d", a, b)) },
	}
}

// show compares what a room knows.
func (w *walker) show(office, room int) {
	views, e := w.d.Show(office, room)
	w.agree(fmt.Sprintf("Show(%d, %d)", office, room), views, e, func(m *model) []*model {
		want, wantErr := m.show(office, room)
		if e != wantErr || fmt.Sprintf("%+v", views) != fmt.Sprintf("%+v", want) {
			return nil
		}
		return []*model{m}
	})
}

// The errors of all methods and their order: all combinations of good and bad arguments, with and without offices that are down; what is refused changes nothing.
func TestErrors(t *testing.T) {
	for name, call := range calls() {
		for down := -1; down < 2; down++ {
			t.Run(fmt.Sprint(name, down), func(t *testing.T) {
				t.Parallel()
				w := tangled(t)
				if down >= 0 {
					w.lower(down)
				}
				numbers := []int{math.MinInt, -1, 0, 1, 2, 3, 7, 8, 9, 10, 11, 12, 13, 14, 1000000, 1000001, math.MaxInt}
				w.quiet = true
				for _, office := range []int{math.MinInt, -1, 3, 8, math.MaxInt, 0, 1, 2} {
					for _, a := range numbers {
						for _, b := range numbers {
							call(w, office, a, b)
							w.log = nil
						}
					}
				}
				w.quiet = false
				w.offer(2)
				w.check()
			})
		}
	}
}

// worn returns a piece of which no automaton can be made.
func worn() api.Piece {
	return piece(api.PieceToName, strings.Repeat("(abc|def|ghi|jkl|mno|pqr|stu|vwx)", 32))
}

// wide returns a thing in the room 1 whose text has so many bytes.
func wide(t *testing.T, id, bytes int) api.Thing {
	t.Helper()
	x := api.Thing{Id: id, Layers: []api.Layer{{}}}
	left := bytes - len(textOf(t, x))
	for pieces := (left + 999) / 1000; pieces > 0; pieces-- {
		size := left / pieces
		left -= size
		text := ""
		for size -= len("piece 1 \n"); size > 0; {
			cell := "a"
			if n := min(8, (size-1)/7); n > 1 {
				cell = "(" + "a:1000|b:1000|c:1000|d:1000|e:1000|f:1000|g:1000|h:1000"[:7*n-1] + ")"
			}
			text += cell
			size -= len(cell)
		}
		x.Layers[0].Pieces = append(x.Layers[0].Pieces, piece(1, text))
	}
	same(t, "the text of a thing", len(textOf(t, x)), bytes)
	return x
}

func textOf(t *testing.T, x api.Thing) string {
	t.Helper()
	return held{thing: x, seal: api.Seal{Thing: x.Id}, room: 1}.text()
}

// The order of the errors of Arrive: each combination of what may be wrong.
func TestErrorsOfArrive(t *testing.T) {
	t.Parallel()
	bad := api.Thing{Id: 0, Layers: make([]api.Layer, 1)}
	many := letter(20, "ann lee", "ayton")
	many.Layers = append(many.Layers, api.Layer{}, api.Layer{})
	late := letter(20, "ann lee", "ayton")
	late.Day = 4
	unread := letter(20, "ann lee", "ayton")
	unread.Layers[1].Pieces = append(unread.Layers[1].Pieces, worn())
	lateUnread := unread
	lateUnread.Day = 4
	unreadWide := wide(t, 20, 3900)
	unreadWide.Layers = append(unreadWide.Layers, api.Layer{Pieces: []api.Piece{worn()}})
	wider := wide(t, 20, 5999) // of which there is no text
	wider.Layers = append(wider.Layers, api.Layer{})
	things := []api.Thing{letter(20, "ann lee", "ayton"), bad, many, late, unread, lateUnread, unreadWide, wide(t, 20, 4001), wide(t, 20, 5999), wider, wide(t, 7, 4001), letter(7, "cat", "south"), letter(14, "cat", "south"), letter(13, "cat", "south"), letter(12, "cat", "south"), {}}
	for down := -1; down < 2; down++ {
		w := tangled(t)
		if down >= 0 {
			w.lower(down)
		}
		for _, office := range []int{-1, 3, 0, 1} {
			for _, room := range []int{-1, 0, 9, 8} {
				for _, x := range things[1:] {
					w.arrive(office, room, x)
				}
			}
		}
		w.arrive(0, 8, things[0])
		w.arrive(1, 8, things[0])
	}
}

// Each refusal of Arrive by itself.
func TestRefusalsOfArrive(t *testing.T) {
	d := furnished(t, 2, openRules)
	for i, x := range []struct {
		office, room int
		thing        api.Thing
		want         api.Errno
	}{
		{2, 1, letter(7, "cat", "south"), api.ErrArg},
		{0, 0, letter(7, "cat", "south"), api.ErrArg},
		{0, 9, letter(7, "cat", "south"), api.ErrArg},
		{0, 1, api.Thing{Id: 7}, api.ErrArg},
		{0, 1, api.Thing{Id: 7, Day: 1, Layers: make([]api.Layer, 1)}, api.ErrArg},
		{0, 1, api.Thing{Id: 7, Layers: make([]api.Layer, 4)}, api.ErrLimit},
		{0, 1, api.Thing{Id: 7, Layers: []api.Layer{{Pieces: []api.Piece{worn()}}}}, api.ErrLimit},
		{0, 1, wide(t, 7, 4001), api.ErrLimit},
		{0, 1, wide(t, 7, 4000), api.OK},
		{1, 1, letter(7, "cat", "south"), api.ErrTwice},
		{0, 8, api.Thing{Id: 8, Layers: make([]api.Layer, 3)}, api.OK},
	} {
		same(t, fmt.Sprint(i), d.Arrive(x.office, x.room, x.thing), x.want)
	}
	l := d.Journal(0)
	equal(t, "the records", l[len(l)-2:], []api.Record{
		{Seq: 13, Kind: api.RecArrive, Room: 1, Thing: 7, Text: strings.Repeat("1", len(wide(t, 7, 4000).Layers[0].Pieces)) + "/", Salt: 8 * 13},
		{Seq: 14, Kind: api.RecArrive, Room: 8, Thing: 8, Text: "///", Salt: 8 * 14},
	})
}

// A configuration has offices from 1 to 8, disks of 1000 to 65536 sectors, and a salt up to 9000000000000000.
func TestNew(t *testing.T) {
	for _, x := range []struct {
		c    api.Config
		want api.Errno
	}{
		{api.Config{Offices: 1, Sectors: 1000}, api.OK}, {api.Config{Offices: 8, Sectors: 65536, Salt: 9000000000000000}, api.OK}, {api.Config{}, api.ErrArg},
		{api.Config{Offices: 0, Sectors: 1000}, api.ErrArg}, {api.Config{Offices: 9, Sectors: 1000}, api.ErrArg}, {api.Config{Offices: -1, Sectors: 1000}, api.ErrArg}, {api.Config{Offices: math.MaxInt, Sectors: 1000}, api.ErrArg},
		{api.Config{Offices: 1, Sectors: 999}, api.ErrArg}, {api.Config{Offices: 1, Sectors: 65537}, api.ErrArg}, {api.Config{Offices: 1, Sectors: math.MinInt}, api.ErrArg},
		{api.Config{Offices: 1, Sectors: 1000, Salt: -1}, api.ErrArg}, {api.Config{Offices: 1, Sectors: 1000, Salt: 9000000000000001}, api.ErrArg},
	} {
		d, e := desk.New(x.c)
		same(t, fmt.Sprint(x.c), e, x.want)
		same(t, fmt.Sprint(x.c), d != nil, x.want == api.OK)
		if d == nil {
			continue
		}
		same(t, "Today", d.Today(), 0)
		same(t, "Roots", len(d.Roots()), x.c.Offices)
		same(t, "an office", d.Offer(x.c.Offices-1), api.OK)
		same(t, "no office", d.Offer(x.c.Offices), api.ErrArg)
	}
}

// Today only grows, up to 100000; a claim is written on it.
func TestAdvance(t *testing.T) {
	d := must(t, 1, 1000, 0)
	for _, x := range []struct {
		day   int
		want  api.Errno
		today int
	}{{-1, api.ErrArg, 0}, {0, api.OK, 0}, {5, api.OK, 5}, {5, api.OK, 5}, {4, api.ErrTime, 5}, {100001, api.ErrArg, 5}, {100000, api.OK, 100000}, {math.MinInt, api.ErrArg, 100000}, {0, api.ErrTime, 100000}} {
		same(t, fmt.Sprint(x.day), d.Advance(x.day), x.want)
		same(t, "Today", d.Today(), x.today)
	}
	_, e := d.Claim(0, 1, 1, 1)
	same(t, "Claim", e, api.OK)
	same(t, "the day", d.Journal(0)[0].Day, 100000)
}

// Methods of a nil desk return ErrNil, or zero values.
func TestNilDesk(t *testing.T) {
	var d *desk.Desk
	for i, e := range []api.Errno{d.Advance(-1), d.Rules(-1, ""), d.Publish(-1, ""), d.Money(-1, ""), d.Arrive(-1, 0, api.Thing{}), d.Hand(-1, 0, 0), d.Ship(0, 0, 0), d.Offer(-1), d.Carry(-1, 0, 0), d.Lose(-1, 0, 0), d.Repeat(-1, 0, 0), d.Unpack(-1, 0, 0), d.Burn(0, 0), d.Stop(-1, -1), d.Crash(-1, nil)} {
		same(t, fmt.Sprint(i), e, api.ErrNil)
	}
	v, e := d.Work(-1, 0)
	fails(t, "Work", e, api.ErrNil, v)
	n, e := d.Claim(-1, 0, 0, 0)
	fails(t, "Claim", e, api.ErrNil, n)
	b, e := d.Answer(-1, 0)
	fails(t, "Answer", e, api.ErrNil, b)
	sums, e := d.Refund(-1, 0, 0)
	fails(t, "Refund", e, api.ErrNil, sums)
	views, e := d.Show(-1, 0)
	fails(t, "Show", e, api.ErrNil, views)
	ruling, e := d.Audit(0)
	fails(t, "Audit", e, api.ErrNil, ruling)
	fails(t, "questions", api.OK, api.OK, d.Today(), d.Things(0), d.Where(1), d.Journal(0), d.Trial(0), d.Roots())
}
