package court_test

import (
	"slices"
	"sync"

	"restante/api"
	"restante/judge"
	"restante/reading"
	"restante/seals"
)

// known is what the chapter says is known before a record of a story.
type known struct {
	thing api.Thing
	seal  api.Seal
	room  int
	gone  bool
}

// trial is the story of a thing in journals.
type trial struct {
	j     [][]api.Record
	story []api.Ref
}

func (t trial) record(k int) api.Record { return get(t.j, t.story[k]) }

// before returns what is known before the record k of the story, if there was no breach until there.
func (t trial) before(k int) known {
	first := t.record(0)
	x := known{thing: api.Thing{Id: first.Thing, Day: first.N, Layers: []api.Layer{{}}}}
	for _, c := range first.Text[:len(first.Text)-1] {
		if c == '/' {
			x.thing.Layers = append(x.thing.Layers, api.Layer{})
			continue
		}
		last := &x.thing.Layers[len(x.thing.Layers)-1]
		last.Pieces = append(last.Pieces, api.Piece{Kind: uint8(c - '0')})
	}
	x.seal, _ = seals.Begin(x.thing)
	for i := range k {
		switch r := t.record(i); r.Kind {
		case api.RecArrive:
			x.room = r.Room
		case api.RecLook:
			if !t.wasSeen(i, r.Look) {
				x.thing.Layers[r.Look.Layer-1].Pieces[r.Look.Piece].Cells = r.Piece.Cells
			}
			x.seal, _, _ = seals.Take(x.thing, x.seal, t.policy(i), r.Fact, r.Look)
		case api.RecHand:
			x.seal, _, _ = seals.Hand(x.thing, x.seal, t.policy(i), r.Fact, r.N)
			x.room = r.Room
		case api.RecReceive:
			x.seal, _, _ = seals.Pass(x.thing, x.seal, t.policy(i), r.Fact, r.Person)
			x.room = r.Room
		case api.RecDeliver, api.RecReturn, api.RecLoss:
			x.gone = true
		}
	}
	return x
}

// wasSeen reports whether a look was in the story before the record k.
func (t trial) wasSeen(k int, l api.Look) bool {
	for i := range k {
		if r := t.record(i); r.Kind == api.RecLook && r.Look == l {
			return true
		}
	}
	return false
}

// prefix returns the records of the journal before the record k of the story.
func (t trial) prefix(k int) []api.Record {
	return t.j[t.story[k].Journal][:t.story[k].Index]
}

func (t trial) books(k int) (api.Books, api.Errno) { return plainBooks(t.prefix(k)) }

// entered is the books that some lines make, or the error of one of them.
type entered struct {
	books api.Books
	e     api.Errno
}

// memory is what the oracle remembers, since the same books and rules are asked for often.
var memory = struct {
	sync.Mutex
	books map[string]entered
	rules map[string]compiled
}{books: map[string]entered{}, rules: map[string]compiled{}}

// plainBooks follows H3.
func plainBooks(l []api.Record) (api.Books, api.Errno) {
	memory.Lock()
	defer memory.Unlock()
	var x entered
	lines := ""
	for _, r := range l {
		if r.Kind != api.RecBook || x.e != api.OK {
			continue
		}
		lines += r.Text + "\x00"
		next, ok := memory.books[lines]
		if !ok {
			next.books, next.e = plainEnter(x.books, r.Text)
			memory.books[lines] = next
		}
		x = next
	}
	return x.books, x.e
}

func (t trial) hasPolicy(k int) bool {
	_, ok := plainPolicy(t.prefix(k))
	return ok
}

func (t trial) policy(k int) api.Policy {
	p, _ := plainPolicy(t.prefix(k))
	return p
}

// compiled is the policy of a source, if it has one.
type compiled struct {
	policy api.Policy
	ok     bool
}

// plainPolicy follows H4.
func plainPolicy(l []api.Record) (api.Policy, bool) {
	memory.Lock()
	defer memory.Unlock()
	for i := len(l) - 1; i >= 0; i-- {
		if l[i].Kind != api.RecRules {
			continue
		}
		x, ok := memory.rules[l[i].Text]
		if !ok {
			rules, fault := seals.Parse(l[i].Text)
			p, _, e := seals.Compile(rules)
			if fault.Err == api.OK && e == api.OK {
				x = compiled{p, true}
			}
			memory.rules[l[i].Text] = x
		}
		return x.policy, x.ok
	}
	return api.Policy{}, false
}

func (t trial) claim(k int) bool {
	l := t.prefix(k)
	for i, x := range l {
		answers := func(y api.Record) bool {
			return y.Kind == api.RecAnswer && y.Thing == x.Thing && y.N == x.N
		}
		if x.Kind == api.RecClaim && x.Thing == t.record(k).Thing && !slices.ContainsFunc(l[i:], answers) {
			return true
		}
	}
	return false
}

// room returns the fact and the verdict of the room of the record k of the story.
func (t trial) room(k int) (api.Fact, api.Verdict) {
	r, x := t.record(k), t.before(k)
	if r.Kind == api.RecReceive {
		x.seal, _ = seals.Begin(x.thing)
	}
	books, _ := t.books(k)
	policy := t.policy(k)
	c := api.Case{Books: books, Thing: x.thing, Opened: seals.Depth(x.seal, r.Room), Day: r.Day, Weights: policy.Weights}
	for _, shown := range x.seal.Rooms {
		if shown.Room == r.Room {
			c.Made = shown.Looks
		}
	}
	f := api.Fact{Room: r.Room, Layer: 1, Days: r.Day - x.thing.Day, Claim: t.claim(k)}
	f.To, _ = judge.Count(c, api.RoleTo)
	f.From, _ = judge.Count(c, api.RoleFrom)
	c.May, _ = seals.Allowed(x.thing, x.seal, policy, f)
	v, _ := judge.Decide(c)
	return f, v
}

// breach returns the first breach at the record k of the story; 0 if there is none.
func (t trial) breach(k int) uint8 {
	r, x := t.record(k), t.before(k)
	is := func(kinds ...uint8) bool { return slices.Contains(kinds, r.Kind) }
	var last api.Record
	if k > 0 {
		last = t.record(k - 1)
	}
	room := r.Room
	if is(api.RecHand) {
		room = r.N
	}
	if is(api.RecReceive) {
		room = r.Person
	}
	switch {
	case x.gone,
		is(api.RecArrive) && k > 0,
		is(api.RecReceive) && last.Kind != api.RecShip,
		!is(api.RecReceive) && last.Kind == api.RecShip,
		!is(api.RecArrive) && room != x.room,
		is(api.RecHand) && r.Room == r.N:
		return api.BreachCustody
	case k > 0 && r.Day < last.Day, r.Day < x.thing.Day:
		return api.BreachTime
	}
	if is(api.RecLook, api.RecHand, api.RecVerdict, api.RecDeliver, api.RecReturn, api.RecKeep, api.RecReceive) {
		if _, e := t.books(k); e != api.OK {
			return api.BreachBook
		}
		if !t.hasPolicy(k) {
			return api.BreachRules
		}
		if what := t.breachOfRoom(k); what != 0 {
			return what
		}
	}
	if is(api.RecLook) && !t.isPaid(k) || is(api.RecMoney) && !t.isDue(k) {
		return api.BreachMoney
	}
	return 0
}

// breachOfRoom looks for the breaches from BreachFact to BreachVerdict.
func (t trial) breachOfRoom(k int) uint8 {
	r, x := t.record(k), t.before(k)
	fact, v := t.room(k)
	if r.Kind == api.RecLook {
		fact.Layer = r.Look.Layer
	}
	if r.Fact != fact && slices.Contains([]uint8{api.RecLook, api.RecHand, api.RecVerdict, api.RecReceive}, r.Kind) {
		return api.BreachFact
	}
	out := func(kind uint8) bool {
		return v.Kind == kind && v.Route.End.Person == r.Person && v.Place == r.Place
	}
	switch r.Kind {
	case api.RecLook:
		if !t.isPiece(k) {
			return api.BreachPiece
		}
		if v.Kind != api.VerLook || v.Look != r.Look {
			return api.BreachNeed
		}
		x.thing.Layers[r.Look.Layer-1].Pieces[r.Look.Piece] = r.Piece
		if _, _, e := seals.Take(x.thing, x.seal, t.policy(k), r.Fact, r.Look); e != api.OK {
			return api.BreachSealed
		}
	case api.RecVerdict:
		if r.Verdict != v.Kind || r.Person != v.Who.Person || r.Place != v.Place || r.Look != v.Look || r.N != v.Plan.Intrusion {
			return api.BreachVerdict
		}
	case api.RecDeliver, api.RecReturn:
		if r.Kind == api.RecDeliver && !out(api.VerDeliver) || r.Kind == api.RecReturn && !out(api.VerReturn) {
			return api.BreachVerdict
		}
	case api.RecKeep:
		if v.Kind == api.VerLook || v.Kind == api.VerDeliver && v.Place != 0 || v.Kind == api.VerReturn && v.Place != 0 {
			return api.BreachVerdict
		}
	}
	return 0
}

// isPiece reports that there is no BreachPiece at the record k, a look.
func (t trial) isPiece(k int) bool {
	r, x := t.record(k), t.before(k)
	if r.Look.Layer > len(x.thing.Layers) || r.Look.Piece >= len(x.thing.Layers[r.Look.Layer-1].Pieces) {
		return false
	}
	if x.thing.Layers[r.Look.Layer-1].Pieces[r.Look.Piece].Kind != r.Piece.Kind {
		return false
	}
	if _, e := reading.Of(r.Piece.Cells); e != api.OK {
		return false
	}
	for i := range k {
		if y := t.record(i); y.Kind == api.RecLook && y.Look == r.Look {
			was, _ := reading.Print(y.Piece.Cells)
			is, _ := reading.Print(r.Piece.Cells)
			if y.Piece.Kind != r.Piece.Kind || was != is {
				return false
			}
		}
	}
	return true
}

// opened returns how many layers were open before the look that is the record k, and how many behind it.
func (t trial) opened(k int) (int, int) {
	return t.before(k).seal.Opened, t.before(k + 1).seal.Opened
}

// isPaid reports whether the records behind a look are those of the money of the layers that it opened.
func (t trial) isPaid(k int) bool {
	from, to := t.opened(k)
	for n := from + 1; n <= to; n++ {
		at := k + n - from
		if at < len(t.story) && (t.record(at).Kind != api.RecMoney || t.record(at).N != n) {
			return false
		}
	}
	return true
}

// isDue reports whether a record of money is one of those behind a look.
func (t trial) isDue(k int) bool {
	for i := range k {
		if t.record(i).Kind == api.RecLook {
			if from, to := t.opened(i); k > i && k-i <= to-from {
				return true
			}
		}
	}
	return false
}

func (t trial) reason(k int) api.Reason {
	r, x := t.record(k), t.before(k)
	fact, _ := t.room(k)
	y := api.Reason{Ref: t.story[k], Rule: -1, Left: 10*int(fact.To) + int(fact.From)}
	if r.Kind == api.RecLook {
		_, y.Rule = seals.Apply(t.policy(k), r.Fact)
		y.Cost, _ = seals.Intrusion(t.policy(k).Weights, seals.Depth(x.seal, r.Room), []api.Look{r.Look})
	}
	return y
}

// plainAudit follows H12.
func plainAudit(j [][]api.Record, thing int) api.Ruling {
	all := slices.DeleteFunc(plainJoin(j), func(ref api.Ref) bool { return get(j, ref).Thing != thing })
	if thing < 1 || thing > 1000000 || len(all) == 0 {
		return api.Ruling{Answer: api.AnswerNothing}
	}
	t := trial{j, plainStory(j, thing)}
	ruling := api.Ruling{Answer: api.AnswerRight}
	found := func(ref api.Ref, what uint8) api.Ruling {
		ruling.Answer, ruling.Breach, ruling.What = api.AnswerBreach, ref, what
		return ruling
	}
	for k, ref := range t.story {
		if what := t.breach(k); what != 0 {
			return found(ref, what)
		}
		if slices.Contains([]uint8{api.RecLook, api.RecDeliver, api.RecReturn, api.RecKeep}, t.record(k).Kind) {
			ruling.Reasons = append(ruling.Reasons, t.reason(k))
		}
	}
	for _, ref := range all {
		if isStoryRecord(get(j, ref)) && !slices.Contains(t.story, ref) {
			return found(ref, api.BreachCustody)
		}
	}
	for _, ref := range all {
		if r := get(j, ref); r.Kind == api.RecMoney && r.Verdict == api.WhyPay && !t.wasHandedOut(r) {
			return found(ref, api.BreachMoney)
		}
	}
	for _, ref := range all {
		if r := get(j, ref); r.Kind == api.RecAnswer && !isOpen(j[ref.Journal][:ref.Index], r) {
			return found(ref, api.BreachClaim)
		}
	}
	return ruling
}

func (t trial) wasHandedOut(pay api.Record) bool {
	return slices.ContainsFunc(t.story, func(ref api.Ref) bool {
		r := get(t.j, ref)
		return (r.Kind == api.RecDeliver || r.Kind == api.RecReturn) && r.Office == pay.Office && r.Seq < pay.Seq && r.Person == pay.Person
	})
}

// isOpen reports whether the claim of an answer is open behind the records before it.
func isOpen(l []api.Record, answer api.Record) bool {
	for i, x := range l {
		if x.Kind == api.RecClaim && x.Thing == answer.Thing && x.N == answer.N && !slices.ContainsFunc(l[i:], func(y api.Record) bool {
			return y.Kind == api.RecAnswer && y.Thing == answer.Thing && y.N == answer.N
		}) {
			return true
		}
	}
	return false
}
