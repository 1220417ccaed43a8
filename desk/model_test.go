package desk_test

import (
	"fmt"
	"maps"
	"slices"

	"restante/api"
	"restante/court"
	"restante/drawers"
	"restante/judge"
	"restante/seals"
)

// held is a thing that an office has. If it is at the door, the seal and the room are those of the office from which it came, and number and lots those of its bag.
type held struct {
	thing        api.Thing
	seal         api.Seal
	room         int
	door         bool
	from, number int
	lots         []api.Lot
}

// text returns the text of the thing.
func (x held) text() string {
	text, e := seals.PutThing(x.thing, x.seal, x.room)
	if e != api.OK {
		panic(e)
	}
	return text
}

// bag is a bag that was shipped and not acknowledged.
type bag struct {
	to, seq int
	what    held
}

// message is what waits on a line: a bag, or an acknowledgement.
type message struct {
	isBag    bool
	from, to int
	seq      int
	what     held
}

// branch is what an office has, without a disk.
type branch struct {
	office  int
	journal []api.Record
	entries []func(l *drawers.Ledger) api.Errno // all that was done in the ledger
	things  map[int]held
	bags    []bag // in ascending order of their offices, then of their numbers
	shipped [8]int
	heard   [8]int
	spent   int // the costs
}

func (o *branch) copied() *branch {
	c := *o
	c.journal, c.entries, c.things, c.bags = slices.Clone(o.journal), slices.Clone(o.entries), maps.Clone(o.things), slices.Clone(o.bags)
	return &c
}

// ledger returns the ledger.
func (o *branch) ledger() *drawers.Ledger {
	l := drawers.New()
	for _, do := range o.entries {
		if e := do(l); e != api.OK {
			panic(e)
		}
	}
	return l
}

// enter does something in the ledger.
func (o *branch) enter(do func(l *drawers.Ledger) api.Errno) api.Errno {
	e := do(o.ledger())
	if e == api.OK {
		o.entries = append(o.entries, do)
	}
	return e
}

// openLots returns the open lots of a thing.
func (o *branch) openLots(thing int) []api.Lot {
	var list []api.Lot
	for _, lot := range o.ledger().Lots(thing) {
		if lot.State == api.LotOpen {
			list = append(list, lot)
		}
	}
	return list
}

// model is a desk without disks, which does what the chapter says word by word. An office may be down; then perhaps may be what it has after a crash.
type model struct {
	offices []*branch
	down    []bool
	armed   []bool // whether the power may fail
	perhaps []*branch
	lines   [8][8][]message
	today   int
	salt    int
	sectors int
}

func newModel(c api.Config) *model {
	m := &model{salt: c.Salt, sectors: c.Sectors}
	for q := range c.Offices {
		m.offices = append(m.offices, &branch{office: q, things: map[int]held{}})
	}
	m.down, m.armed, m.perhaps = make([]bool, c.Offices), make([]bool, c.Offices), make([]*branch, c.Offices)
	return m
}

func (m *model) copied() *model {
	c := *m
	c.offices, c.perhaps = nil, slices.Clone(m.perhaps)
	for _, o := range m.offices {
		c.offices = append(c.offices, o.copied())
	}
	c.down, c.armed = slices.Clone(m.down), slices.Clone(m.armed)
	for i := range c.lines {
		for j := range c.lines[i] {
			c.lines[i][j] = slices.Clone(m.lines[i][j])
		}
	}
	return &c
}

func (m *model) isOffice(office int) bool { return office >= 0 && office < len(m.offices) }

// first returns the first errors.
func (m *model) first(office int) api.Errno {
	if !m.isOffice(office) {
		return api.ErrArg
	}
	if m.down[office] {
		return api.ErrDown
	}
	return api.OK
}

func (m *model) anyDown() bool { return slices.Contains(m.down, true) }

func (m *model) journals() [][]api.Record {
	var list [][]api.Record
	for _, o := range m.offices {
		list = append(list, o.journal)
	}
	return list
}

// write adds a record.
func (m *model) write(o *branch, r api.Record) {
	r.Office, r.Seq, r.Day, r.Salt = o.office, len(o.journal), m.today, m.salt+8*len(o.journal)+o.office
	o.journal = append(o.journal, r)
}

// advance advances the ledger to today.
func (m *model) advance(o *branch) {
	day := m.today
	if e := o.enter(func(l *drawers.Ledger) api.Errno { _, e := l.Advance(day); return e }); e != api.OK {
		panic(e)
	}
}

// policy returns the policy of an office.
func (o *branch) policy() (api.Policy, bool) { return court.Policy(o.journal) }

// scene returns the fact of a room for a thing with a seal, and its verdict.
func (m *model) scene(o *branch, room int, t api.Thing, s api.Seal) (api.Fact, api.Verdict, api.Errno) {
	policy, _ := o.policy()
	books, _, e := court.Books(o.journal)
	if e != api.OK {
		panic(e)
	}
	f := api.Fact{Room: room, Layer: 1, Days: m.today - t.Day, Claim: court.Pending(o.journal, t.Id)}
	c := api.Case{Books: books, Thing: t, Opened: seals.Depth(s, room), Day: m.today, Weights: policy.Weights}
	for _, x := range s.Rooms {
		if x.Room == room {
			c.Made = x.Looks
		}
	}
	allowed := func(f api.Fact) []api.Look {
		looks, e := seals.Allowed(t, s, policy, f)
		if e != api.OK {
			panic(e)
		}
		return looks
	}
	c.May = allowed(f)
	var to, from api.Errno
	f.To, to = judge.Count(c, api.RoleTo)
	f.From, from = judge.Count(c, api.RoleFrom)
	if to != api.OK || from != api.OK {
		panic(fmt.Sprint(to, from))
	}
	c.May = allowed(f)
	v, e := judge.Decide(c)
	return f, v, e
}

func (m *model) where(thing int) api.Site {
	for q, o := range m.offices {
		if x, ok := o.things[thing]; ok && x.door {
			return api.Site{Kind: api.SiteOffice, Office: q}
		} else if ok {
			return api.Site{Kind: api.SiteOffice, Office: q, Room: x.room}
		}
	}
	kinds := map[uint8]uint8{api.RecLoss: api.SiteLost, api.RecDeliver: api.SiteDelivered, api.RecReturn: api.SiteReturned}
	for q, o := range m.offices {
		for _, r := range o.journal {
			if kind := kinds[r.Kind]; kind != 0 && r.Thing == thing {
				return api.Site{Kind: kind, Office: q}
			}
		}
	}
	for q, o := range m.offices {
		for _, b := range o.bags {
			if b.what.thing.Id == thing && m.offices[b.to].heard[q] < b.seq {
				return api.Site{Kind: api.SiteBag, Office: b.to}
			}
		}
	}
	return api.Site{}
}

func (m *model) show(office, room int) ([]api.View, api.Errno) {
	if e := m.first(office); e != api.OK {
		return nil, e
	}
	if room < 1 || room > 8 {
		return nil, api.ErrArg
	}
	var views []api.View
	o := m.offices[office]
	for _, id := range slices.Sorted(maps.Keys(o.things)) {
		if x := o.things[id]; !x.door && x.room == room {
			view, e := seals.See(x.thing, x.seal, room)
			if e != api.OK {
				panic(e)
			}
			views = append(views, view)
		}
	}
	return views, api.OK
}

// questions returns what the function questions of the desk returns.
func (m *model) questions(things ...int) string {
	var list []any
	for q, o := range m.offices {
		ids := slices.Sorted(maps.Keys(o.things))
		list = append(list, "\noffice", q, ids, o.journal, o.ledger().Trial(m.today))
		for room := 1; room <= 8; room++ {
			views, e := m.show(q, room)
			list = append(list, views, e)
		}
	}
	for _, x := range things {
		list = append(list, "\nthing", x, m.where(x))
	}
	return fmt.Sprintf("%+v", list)
}

func (m *model) roots() []api.Root {
	var list []api.Root
	for q, o := range m.offices {
		var digests []api.Hash
		for _, r := range o.journal {
			digests = append(digests, court.Digest(r))
		}
		list = append(list, api.Root{Office: q, N: len(digests), Hash: court.Root(digests)})
	}
	return list
}
