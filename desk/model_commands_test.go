package desk_test

import (
	"fmt"
	"regexp"
	"slices"
	"strconv"

	"restante/api"
	"restante/court"
	"restante/drawers"
	"restante/reading"
	"restante/seals"
)

// result is what a command returns besides its error.
type result any

// change is a command on a copy of a model: office says where it writes, and done is what it does if it has no error.
type change struct {
	office int
	cost   int // of the strings and of the text of the thing
	result result
	done   func(o *branch)
}

// none is the outcome of a command with an error.
func none(e api.Errno) (change, api.Errno) { return change{}, e }

func (m *model) rules(office int, source string) (change, api.Errno) {
	if e := m.first(office); e != api.OK {
		return none(e)
	}
	rules, fault := seals.Parse(source)
	if fault.Err != api.OK {
		return none(fault.Err)
	}
	if _, _, e := seals.Compile(rules); e != api.OK {
		return none(e)
	}
	return change{office: office, cost: len(source), done: func(o *branch) {
		m.advance(o)
		m.write(o, api.Record{Kind: api.RecRules, Text: source})
	}}, api.OK
}

func (m *model) publish(office int, line string) (change, api.Errno) {
	if e := m.first(office); e != api.OK {
		return none(e)
	}
	books, _, _ := court.Books(m.offices[office].journal)
	if _, e := court.Enter(books, line); e != api.OK {
		return none(e)
	}
	return change{office: office, cost: len(line), done: func(o *branch) {
		m.advance(o)
		m.write(o, api.Record{Kind: api.RecBook, Text: line})
	}}, api.OK
}

// The forms of lines about money.
var (
	unitForm    = regexp.MustCompile(`(?s)^unit (.*) ([123])$`)
	valueForm   = regexp.MustCompile(`(?s)^value (.*) (0|[1-9][0-9]{0,9})$`)
	termForm    = regexp.MustCompile(`(?s)^term (.*) (0|[1-9][0-9]{0,9}) (0|[1-9][0-9]{0,9})$`)
	convertForm = regexp.MustCompile(`(?s)^convert (0|[1-9][0-9]{0,9}) (.*) (0|[1-9][0-9]{0,9})$`)
)

func number(s string) int { n, _ := strconv.Atoi(s); return n }

func (m *model) money(office int, line string) (change, api.Errno) {
	if e := m.first(office); e != api.OK {
		return none(e)
	}
	day := m.today
	var do func(l *drawers.Ledger) api.Errno
	if x := unitForm.FindStringSubmatch(line); x != nil {
		do = func(l *drawers.Ledger) api.Errno { return l.SetUnit(day, x[1], uint8(number(x[2]))) }
	} else if x := valueForm.FindStringSubmatch(line); x != nil {
		do = func(l *drawers.Ledger) api.Errno { return l.SetValue(day, x[1], number(x[2])) }
	} else if x := termForm.FindStringSubmatch(line); x != nil {
		do = func(l *drawers.Ledger) api.Errno { return l.SetTerm(day, x[1], number(x[2]), number(x[3])) }
	} else if x := convertForm.FindStringSubmatch(line); x != nil {
		do = func(l *drawers.Ledger) api.Errno {
			_, _, e := l.Convert(day, number(x[1]), x[2], number(x[3]))
			return e
		}
	} else {
		return none(api.ErrForm)
	}
	if e := do(m.offices[office].ledger()); e != api.OK {
		return none(e)
	}
	return change{office: office, cost: len(line), done: func(o *branch) { o.enter(do) }}, api.OK
}

func (m *model) arrive(office, room int, t api.Thing) (change, api.Errno) {
	if e := m.first(office); e != api.OK {
		return none(e)
	}
	if m.anyDown() {
		return none(api.ErrDown)
	}
	if room < 1 || room > 8 {
		return none(api.ErrArg)
	}
	if e := seals.CheckThing(t); e != api.OK {
		return none(e)
	}
	if t.Day > m.today {
		return none(api.ErrArg)
	}
	dockets := ""
	for _, layer := range t.Layers {
		for _, p := range layer.Pieces {
			if _, e := reading.Of(p.Cells); e != api.OK {
				return none(e)
			}
			dockets += fmt.Sprint(p.Kind)
		}
		dockets += "/"
	}
	seal, _ := seals.Begin(t)
	text, e := seals.PutThing(t, seal, room)
	if e != api.OK || len(text) > 4000 {
		return none(api.ErrLimit)
	}
	for _, o := range m.offices {
		for _, r := range o.journal {
			if r.Kind == api.RecArrive && r.Thing == t.Id {
				return none(api.ErrTwice)
			}
		}
	}
	return change{office: office, cost: len(text), done: func(o *branch) {
		m.advance(o)
		m.write(o, api.Record{Kind: api.RecArrive, Room: room, Thing: t.Id, N: t.Day, Text: dockets})
		o.things[t.Id] = held{thing: t, seal: seal, room: room}
	}}, api.OK
}

// inRoom returns a thing in a room of an office.
func (m *model) inRoom(office, thing int) (held, bool) {
	x, ok := m.offices[office].things[thing]
	return x, ok && !x.door
}

func (m *model) work(office, thing int) (change, api.Errno) {
	if e := m.first(office); e != api.OK {
		return none(e)
	}
	x, ok := m.inRoom(office, thing)
	if !ok {
		return none(api.ErrNone)
	}
	policy, ok := m.offices[office].policy()
	if !ok {
		return none(api.ErrState)
	}
	f, v, e := m.scene(m.offices[office], x.room, x.thing, x.seal)
	if e != api.OK {
		return none(e)
	}
	o := m.offices[office].copied()
	m.advance(o)
	put := func(r api.Record) {
		r.Room, r.Thing = x.room, thing
		m.write(o, r)
	}
	put(api.Record{Kind: api.RecVerdict, Fact: f, Verdict: v.Kind, Person: v.Who.Person, Place: v.Place, Look: v.Look, N: v.Plan.Intrusion})
	day, text := m.today, x.text()
	switch {
	case v.Kind == api.VerLook:
		f.Layer = v.Look.Layer
		seal, p, e := seals.Take(x.thing, x.seal, policy, f, v.Look)
		if e != api.OK {
			panic(e)
		}
		put(api.Record{Kind: api.RecLook, Fact: f, Look: v.Look, Piece: p})
		for n := x.seal.Opened + 1; n <= seal.Opened; n++ {
			goods := x.thing.Layers[n-1].Goods
			if e := o.enter(func(l *drawers.Ledger) api.Errno { _, e := l.Deposit(day, thing, n, goods); return e }); e != api.OK {
				return none(e)
			}
			put(api.Record{Kind: api.RecMoney, Verdict: api.WhyDeposit, N: n, Goods: goods})
		}
		x.seal = seal
		o.things[thing] = x
	case (v.Kind == api.VerDeliver || v.Kind == api.VerReturn) && v.Route.Kind == api.RouteHouse && v.Place != 0:
		kind, person := api.RecDeliver, v.Route.End.Person
		if v.Kind == api.VerReturn {
			kind = api.RecReturn
		}
		put(api.Record{Kind: kind, Person: person, Place: v.Place})
		if len(o.openLots(thing)) > 0 {
			sums, _ := o.ledger().Pay(day, thing, person)
			o.enter(func(l *drawers.Ledger) api.Errno { _, e := l.Pay(day, thing, person); return e })
			put(api.Record{Kind: api.RecMoney, Person: person, Verdict: api.WhyPay, Goods: sums})
		}
		delete(o.things, thing)
	default:
		put(api.Record{Kind: api.RecKeep})
	}
	return change{office: office, cost: len(text), result: v, done: func(to *branch) { *to = *o }}, api.OK
}

func (m *model) hand(office, thing, room int) (change, api.Errno) {
	if e := m.first(office); e != api.OK {
		return none(e)
	}
	x, ok := m.inRoom(office, thing)
	if !ok {
		return none(api.ErrNone)
	}
	if room < 1 || room > 8 || room == x.room {
		return none(api.ErrArg)
	}
	policy, ok := m.offices[office].policy()
	if !ok {
		return none(api.ErrState)
	}
	f, _, _ := m.scene(m.offices[office], room, x.thing, x.seal)
	return change{office: office, cost: len(x.text()), done: func(o *branch) {
		m.advance(o)
		seal, _, e := seals.Hand(x.thing, x.seal, policy, f, x.room)
		if e != api.OK {
			panic(e)
		}
		m.write(o, api.Record{Kind: api.RecHand, Room: room, Thing: thing, Fact: f, N: x.room})
		x.seal, x.room = seal, room
		o.things[thing] = x
	}}, api.OK
}

// count returns how many records of a kind the journal has.
func (o *branch) count(kind uint8) int {
	n := 0
	for _, r := range o.journal {
		if r.Kind == kind {
			n++
		}
	}
	return n
}

func (m *model) ship(office, thing, to int) (change, api.Errno) {
	if e := m.first(office); e != api.OK {
		return none(e)
	}
	if !m.isOffice(to) || to == office {
		return none(api.ErrArg)
	}
	x, ok := m.inRoom(office, thing)
	if !ok {
		return none(api.ErrNone)
	}
	o := m.offices[office].copied()
	m.advance(o)
	if len(o.openLots(thing)) > 20 {
		return none(api.ErrLimit)
	}
	text, day := x.text(), m.today
	x.number, x.from = 1+o.count(api.RecShip), office
	if len(o.openLots(thing)) > 0 {
		x.lots, _ = o.ledger().Dispatch(day, thing, x.number)
		o.enter(func(l *drawers.Ledger) api.Errno { _, e := l.Dispatch(day, thing, x.number); return e })
	}
	m.write(o, api.Record{Kind: api.RecShip, Room: x.room, Thing: thing, Place: to, N: x.number})
	delete(o.things, thing)
	o.shipped[to]++
	o.bags = append(o.bags, bag{to: to, seq: o.shipped[to], what: x})
	slices.SortStableFunc(o.bags, func(a, b bag) int { return a.to - b.to })
	return change{office: office, cost: len(text), done: func(to *branch) { *to = *o }}, api.OK
}

func (m *model) offer(office int) api.Errno {
	if e := m.first(office); e != api.OK {
		return e
	}
	for _, b := range m.offices[office].bags {
		m.send(message{isBag: true, from: office, to: b.to, seq: b.seq, what: b.what})
	}
	return api.OK
}

func (m *model) send(x message) {
	if line := &m.lines[x.from][x.to]; len(*line) < 100 {
		*line = append(*line, x)
	}
}

// hasMessage reports whether there is a message on a line.
func (m *model) hasMessage(from, to, index int) bool {
	return m.isOffice(from) && m.isOffice(to) && index >= 0 && index < len(m.lines[from][to])
}

// carry takes a message from its line; the answer is sent if the office to writes down what it heard.
func (m *model) carry(from, to, index int) (change, *message, api.Errno) {
	if !m.hasMessage(from, to, index) {
		return change{}, nil, api.ErrNone
	}
	if m.down[to] {
		return change{}, nil, api.ErrDown
	}
	x := m.lines[from][to][index]
	m.lines[from][to] = slices.Delete(m.lines[from][to], index, index+1)
	o := m.offices[to]
	if x.isBag {
		answer := &message{from: to, to: from, seq: x.seq}
		switch {
		case x.seq > o.heard[from]+1:
			return change{office: -1}, nil, api.OK
		case x.seq <= o.heard[from]:
			return change{office: -1}, answer, api.OK
		}
		return change{office: to, cost: len(x.what.text()), done: func(o *branch) {
			o.heard[from]++
			x.what.door = true
			o.things[x.what.thing.Id] = x.what
		}}, answer, api.OK
	}
	at := slices.IndexFunc(o.bags, func(b bag) bool { return b.to == from && b.seq == x.seq })
	if at < 0 {
		return change{office: -1}, nil, api.OK
	}
	return change{office: to, done: func(o *branch) {
		b, day := o.bags[at], m.today
		o.bags = slices.Delete(o.bags, at, at+1)
		if len(b.what.lots) > 0 {
			o.enter(func(l *drawers.Ledger) api.Errno { _, e := l.Arrived(day, b.what.number); return e })
		}
	}}, nil, api.OK
}

func (m *model) unpack(office, thing, room int) (change, api.Errno) {
	if e := m.first(office); e != api.OK {
		return none(e)
	}
	x, ok := m.offices[office].things[thing]
	if !ok || !x.door {
		return none(api.ErrNone)
	}
	if room < 1 || room > 8 {
		return none(api.ErrArg)
	}
	policy, ok := m.offices[office].policy()
	if !ok {
		return none(api.ErrState)
	}
	day := m.today
	receive := func(l *drawers.Ledger) api.Errno { _, e := l.Receive(day, x.lots); return e }
	if e := receive(m.offices[office].ledger()); e != api.OK {
		return none(e)
	}
	closed, _ := seals.Begin(x.thing)
	f, _, _ := m.scene(m.offices[office], room, x.thing, closed)
	return change{office: office, cost: len(x.text()), done: func(o *branch) {
		m.advance(o)
		o.enter(receive)
		seal, _, e := seals.Pass(x.thing, x.seal, policy, f, x.room)
		if e != api.OK {
			panic(e)
		}
		m.write(o, api.Record{Kind: api.RecReceive, Room: room, Thing: thing, Fact: f, Place: x.from, N: x.number, Person: x.room})
		o.things[thing] = held{thing: x.thing, seal: seal, room: room}
	}}, api.OK
}

func (m *model) burn(office, thing int) (change, api.Errno) {
	if e := m.first(office); e != api.OK {
		return none(e)
	}
	x, ok := m.inRoom(office, thing)
	if !ok {
		return none(api.ErrNone)
	}
	day := m.today
	return change{office: office, cost: len(x.text()), done: func(o *branch) {
		m.advance(o)
		if len(o.openLots(thing)) > 0 {
			o.enter(func(l *drawers.Ledger) api.Errno { _, e := l.Lose(day, thing); return e })
		}
		m.write(o, api.Record{Kind: api.RecLoss, Room: x.room, Thing: thing})
		delete(o.things, thing)
	}}, api.OK
}

func isId(n int) bool { return n >= 1 && n <= 1000000 }

func (m *model) claim(office, person, thing int, ask uint8) (change, api.Errno) {
	if e := m.first(office); e != api.OK {
		return none(e)
	}
	if !isId(person) || !isId(thing) || ask < 1 || ask > 3 {
		return none(api.ErrArg)
	}
	n := 1 + m.offices[office].count(api.RecClaim)
	return change{office: office, result: n, done: func(o *branch) {
		m.advance(o)
		m.write(o, api.Record{Kind: api.RecClaim, Thing: thing, Person: person, N: n, Verdict: ask})
	}}, api.OK
}

func (m *model) answer(office, claim int) (change, api.Errno) {
	if e := m.first(office); e != api.OK {
		return none(e)
	}
	if m.anyDown() {
		return none(api.ErrDown)
	}
	var made *api.Record
	for i, r := range m.offices[office].journal {
		if r.Kind == api.RecClaim && r.N == claim {
			made = &m.offices[office].journal[i]
		}
		if r.Kind == api.RecAnswer && r.N == claim && made != nil && r.Thing == made.Thing {
			return none(api.ErrNone)
		}
	}
	if made == nil {
		return none(api.ErrNone)
	}
	b, e := court.Bundle(m.journals(), api.Claim{Id: claim, Day: made.Day, Person: made.Person, Thing: made.Thing, Ask: made.Verdict})
	if e != api.OK {
		panic(e)
	}
	thing := made.Thing
	return change{office: office, result: b, done: func(o *branch) {
		m.advance(o)
		m.write(o, api.Record{Kind: api.RecAnswer, Thing: thing, N: claim, Verdict: b.Ruling.Answer})
	}}, api.OK
}

func (m *model) refund(office, thing, person int) (change, api.Errno) {
	if e := m.first(office); e != api.OK {
		return none(e)
	}
	if !isId(thing) || !isId(person) {
		return none(api.ErrArg)
	}
	if party, _ := court.Party(m.journals(), person, thing); !party {
		return none(api.ErrState)
	}
	day := m.today
	sums, e := m.offices[office].ledger().Refund(day, thing, person)
	if e != api.OK {
		return none(e)
	}
	return change{office: office, result: sums, done: func(o *branch) {
		o.enter(func(l *drawers.Ledger) api.Errno { _, e := l.Refund(day, thing, person); return e })
		m.write(o, api.Record{Kind: api.RecMoney, Room: 1, Thing: thing, Person: person, Verdict: api.WhyRefund, Goods: sums})
	}}, api.OK
}
