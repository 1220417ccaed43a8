package desk_test

import (
	"fmt"
	"math/rand"
	"slices"
	"strings"
	"testing"

	"restante/api"
	"restante/court"
	"restante/desk"
)

// walker runs commands on a desk and on models, of which one has to agree with it. Behind a crash there may be several ones that agree.
type walker struct {
	t      *testing.T
	r      *rand.Rand
	d      *desk.Desk
	models []*model
	ids    []int // the things that are asked for
	quiet  bool  // whether nothing is asked behind a call
	log    []string
}

func newWalker(t *testing.T, r *rand.Rand, c api.Config) *walker {
	d, e := desk.New(c)
	same(t, "New", e, api.OK)
	return &walker{t: t, r: r, d: d, models: []*model{newModel(c)}, ids: []int{1, 2, 3, 4, 5, 6, 7, 8, 9, 10, 11, 12}}
}

// model returns a model that agrees with the desk.
func (w *walker) model() *model { return w.models[0] }

// settle returns what a model is behind a command, by the error that the desk returned; nil if it does not agree.
func (m *model) settle(c change, e api.Errno, answer *message, got any, gotErr api.Errno) *model {
	if e != api.OK || c.office < 0 {
		if gotErr != e {
			return nil
		}
		if answer != nil {
			m.send(*answer)
		}
		return m
	}
	after := m.offices[c.office].copied()
	c.done(after)
	after.spent += 420 + c.cost/4
	switch {
	case len(after.journal) > 4000:
		if gotErr == api.ErrLimit {
			return m
		}
	case gotErr == api.OK && fmt.Sprintf("%+v", got) == fmt.Sprintf("%+v", c.result):
		m.offices[c.office] = after
		if answer != nil {
			m.send(*answer)
		}
		return m
	case gotErr == api.ErrDown && m.armed[c.office]:
		m.down[c.office], m.perhaps[c.office] = true, after
		return m
	case gotErr == api.ErrFull && after.spent > m.sectors:
		return m
	}
	return nil
}

// agree keeps the models that agree with the desk behind a call.
func (w *walker) agree(what string, got any, e api.Errno, next func(m *model) []*model) {
	w.t.Helper()
	w.log = append(w.log, fmt.Sprintf("%s: %d", what, e))
	if e != api.OK && got != nil {
		fails(w.t, what, e, e, got)
	}
	var left []*model
	wanted := "nothing"
	asked := ""
	if !w.quiet {
		asked = questions(w.d, len(w.model().offices), w.ids...)
	}
	for _, m := range w.models {
		for _, n := range next(m.copied()) {
			if n == nil {
				continue
			}
			if !w.quiet {
				wanted = n.questions(w.ids...)
			}
			if w.quiet || wanted == asked {
				left = append(left, n)
			}
		}
	}
	if len(left) == 0 {
		w.t.Fatalf("%s\nreturned %+v, %d\nthe desk has %s\nit should have %s", strings.Join(w.log, "\n"), got, e, asked, wanted)
	}
	w.models = left
}

// command compares a command.
func (w *walker) command(what string, got any, e api.Errno, try func(m *model) (change, api.Errno)) {
	w.t.Helper()
	w.agree(what, got, e, func(m *model) []*model {
		c, want := try(m)
		return []*model{m.settle(c, want, nil, got, e)}
	})
}

// plain compares a call that returns an error and concerns no disk.
func (w *walker) plain(what string, e api.Errno, try func(m *model) api.Errno) {
	w.t.Helper()
	w.agree(what, nil, e, func(m *model) []*model {
		if try(m) != e {
			return nil
		}
		return []*model{m}
	})
}

func (w *walker) rules(office int, source string) {
	e := w.d.Rules(office, source)
	w.command(fmt.Sprintf("Rules(%d, %q)", office, source), nil, e, func(m *model) (change, api.Errno) { return m.rules(office, source) })
}

func (w *walker) publish(office int, line string) {
	e := w.d.Publish(office, line)
	w.command(fmt.Sprintf("Publish(%d, %q)", office, line), nil, e, func(m *model) (change, api.Errno) { return m.publish(office, line) })
}

func (w *walker) money(office int, line string) {
	e := w.d.Money(office, line)
	w.command(fmt.Sprintf("Money(%d, %q)", office, line), nil, e, func(m *model) (change, api.Errno) { return m.money(office, line) })
}

func (w *walker) arrive(office, room int, x api.Thing) {
	e := w.d.Arrive(office, room, x)
	w.command(fmt.Sprintf("Arrive(%d, %d, %v)", office, room, x), nil, e, func(m *model) (change, api.Errno) { return m.arrive(office, room, x) })
}

func (w *walker) work(office, thing int) api.Verdict {
	v, e := w.d.Work(office, thing)
	w.command(fmt.Sprintf("Work(%d, %d)", office, thing), v, e, func(m *model) (change, api.Errno) { return m.work(office, thing) })
	return v
}

func (w *walker) hand(office, thing, room int) {
	e := w.d.Hand(office, thing, room)
	w.command(fmt.Sprintf("Hand(%d, %d, %d)", office, thing, room), nil, e, func(m *model) (change, api.Errno) { return m.hand(office, thing, room) })
}

func (w *walker) ship(office, thing, to int) {
	e := w.d.Ship(office, thing, to)
	w.command(fmt.Sprintf("Ship(%d, %d, %d)", office, thing, to), nil, e, func(m *model) (change, api.Errno) { return m.ship(office, thing, to) })
}

func (w *walker) unpack(office, thing, room int) {
	e := w.d.Unpack(office, thing, room)
	w.command(fmt.Sprintf("Unpack(%d, %d, %d)", office, thing, room), nil, e, func(m *model) (change, api.Errno) { return m.unpack(office, thing, room) })
}

func (w *walker) burn(office, thing int) {
	e := w.d.Burn(office, thing)
	w.command(fmt.Sprintf("Burn(%d, %d)", office, thing), nil, e, func(m *model) (change, api.Errno) { return m.burn(office, thing) })
}

func (w *walker) claim(office, person, thing int, ask uint8) {
	n, e := w.d.Claim(office, person, thing, ask)
	w.command(fmt.Sprintf("Claim(%d, %d, %d, %d)", office, person, thing, ask), n, e, func(m *model) (change, api.Errno) { return m.claim(office, person, thing, ask) })
}

// answer also looks whether the bundle is accepted with the roots of the desk.
func (w *walker) answer(office, claim int) {
	roots := w.d.Roots()
	b, e := w.d.Answer(office, claim)
	w.command(fmt.Sprintf("Answer(%d, %d)", office, claim), b, e, func(m *model) (change, api.Errno) { return m.answer(office, claim) })
	if e == api.OK {
		_, e := court.CheckBundle(b, roots)
		same(w.t, "P9.7", e, api.OK)
	}
}

func (w *walker) refund(office, thing, person int) {
	sums, e := w.d.Refund(office, thing, person)
	w.command(fmt.Sprintf("Refund(%d, %d, %d)", office, thing, person), sums, e, func(m *model) (change, api.Errno) { return m.refund(office, thing, person) })
}

func (w *walker) carry(from, to, index int) {
	e := w.d.Carry(from, to, index)
	w.agree(fmt.Sprintf("Carry(%d, %d, %d)", from, to, index), nil, e, func(m *model) []*model {
		c, answer, want := m.carry(from, to, index)
		return []*model{m.settle(c, want, answer, nil, e)}
	})
}

func (w *walker) offer(office int) {
	w.plain(fmt.Sprintf("Offer(%d)", office), w.d.Offer(office), func(m *model) api.Errno { return m.offer(office) })
}

func (w *walker) lose(from, to, index int) {
	w.plain(fmt.Sprintf("Lose(%d, %d, %d)", from, to, index), w.d.Lose(from, to, index), func(m *model) api.Errno {
		if !m.hasMessage(from, to, index) {
			return api.ErrNone
		}
		m.lines[from][to] = slices.Delete(m.lines[from][to], index, index+1)
		return api.OK
	})
}

func (w *walker) repeat(from, to, index int) {
	w.plain(fmt.Sprintf("Repeat(%d, %d, %d)", from, to, index), w.d.Repeat(from, to, index), func(m *model) api.Errno {
		if !m.hasMessage(from, to, index) {
			return api.ErrNone
		}
		if len(m.lines[from][to]) >= 100 {
			return api.ErrFull
		}
		m.send(m.lines[from][to][index])
		return api.OK
	})
}

func (w *walker) day(day int) {
	w.plain(fmt.Sprintf("Advance(%d)", day), w.d.Advance(day), func(m *model) api.Errno {
		if day < 0 || day > 100000 {
			return api.ErrArg
		}
		if day < m.today {
			return api.ErrTime
		}
		m.today = day
		return api.OK
	})
	same(w.t, "Today", w.d.Today(), w.model().today)
}

func (w *walker) stop(office, calls int) {
	w.plain(fmt.Sprintf("Stop(%d, %d)", office, calls), w.d.Stop(office, calls), func(m *model) api.Errno {
		if e := m.first(office); e != api.OK {
			return e
		}
		if calls < 0 {
			return api.ErrArg
		}
		m.armed[office] = true
		return api.OK
	})
}

func (w *walker) crash(office int, keep []int) {
	e := w.d.Crash(office, keep)
	w.agree(fmt.Sprintf("Crash(%d, %v)", office, keep), nil, e, func(m *model) []*model {
		if !m.isOffice(office) {
			if e != api.ErrArg {
				return nil
			}
			return []*model{m}
		}
		after := m.perhaps[office]
		m.down[office], m.armed[office], m.perhaps[office] = false, false, nil
		list := []*model{m}
		if after != nil {
			n := m.copied()
			n.offices[office] = after
			list = append(list, n)
		}
		return list
	})
	if w.model().isOffice(office) {
		same(w.t, "Crash", e, api.OK)
	}
}

// check compares the questions that take longer, and looks whether all promises hold.
func (w *walker) check() {
	w.t.Helper()
	m := w.model()
	equal(w.t, "Roots", w.d.Roots(), m.roots())
	for _, id := range w.ids {
		got, e := w.d.Audit(id)
		want, _ := court.Audit(m.journals(), id)
		same(w.t, "Audit", e, api.OK)
		equal(w.t, "Audit", got, want)
		arrived := slices.ContainsFunc(slices.Concat(m.journals()...), func(r api.Record) bool { return r.Kind == api.RecArrive && r.Thing == id })
		if arrived {
			same(w.t, "P9.2", got.Answer, api.AnswerRight)
		}
		same(w.t, "P9.3", w.d.Where(id).Kind != api.SiteNone, arrived)
	}
	w.checkUnits()
	same(w.t, "Trial", len(w.d.Trial(len(m.offices)))+len(w.d.Trial(-1)), 0)
	same(w.t, "Journal", len(w.d.Journal(len(m.offices)))+len(w.d.Journal(-1)), 0)
	same(w.t, "Things", len(w.d.Things(len(m.offices)))+len(w.d.Things(-1)), 0)
}

// checkUnits looks whether the balances of each unit are 0 in all, and no thing has something where it is not.
func (w *walker) checkUnits() {
	for q := range w.model().offices {
		sums := map[string]int{}
		for _, line := range w.d.Trial(q) {
			sums[line.Unit] += line.N
			site := w.d.Where(line.Account.Id)
			if line.Account.Kind == api.AcThing && (site.Kind != api.SiteOffice || site.Office != q || site.Room == 0) {
				w.t.Fatalf("P9.4: %+v, %+v", line, site)
			}
		}
		for unit, n := range sums {
			same(w.t, "P9.4: "+unit, n, 0)
		}
	}
}
