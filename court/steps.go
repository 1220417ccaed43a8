package court

import (
	"restante/api"
	"restante/reading"
	"restante/seals"
)

// steps returns what is done at a record of the story, by its kind.
func steps() map[uint8]func(*trial, api.Record) {
	return map[uint8]func(*trial, api.Record){
		api.RecArrive:  (*trial).arrive,
		api.RecLook:    (*trial).look,
		api.RecHand:    (*trial).hand,
		api.RecVerdict: (*trial).verdict,
		api.RecDeliver: (*trial).handOut,
		api.RecReturn:  (*trial).handOut,
		api.RecKeep:    (*trial).keep,
		api.RecShip:    (*trial).ship,
		api.RecLoss:    (*trial).lose,
		api.RecMoney:   (*trial).money,
		api.RecReceive: (*trial).receive,
	}
}

func (t *trial) arrive(r api.Record) {
	t.begin(r, true)
	t.room = r.Room
}

func (t *trial) look(r api.Record) {
	t.begin(r, r.Room == t.room)
	s := t.scene(r, t.seal)
	s.fact.Layer = r.Look.Layer
	t.require(r.Fact == s.fact, api.BreachFact)
	t.require(t.mayHave(r.Look, r.Piece), api.BreachPiece)
	v := s.verdict(t.seal)
	t.require(v.Kind == api.VerLook && v.Look == r.Look, api.BreachNeed)
	opened, depth := t.seal.Opened, seals.Depth(t.seal, r.Room)
	t.take(r, s.policy)
	t.require(t.isPaid(opened), api.BreachMoney)
	t.due = t.seal.Opened - opened
	_, rule := seals.Apply(s.policy, r.Fact)
	cost, _ := seals.Intrusion(s.policy.Weights, depth, []api.Look{r.Look})
	t.explain(rule, cost, s.fact)
}

// mayHave reports whether the thing may have a piece at a look.
func (t *trial) mayHave(l api.Look, p api.Piece) bool {
	if l.Layer > len(t.thing.Layers) || l.Piece >= len(t.thing.Layers[l.Layer-1].Pieces) {
		return false
	}
	known := t.thing.Layers[l.Layer-1].Pieces[l.Piece]
	_, e := reading.Of(p.Cells)
	return e == api.OK && p.Kind == known.Kind && (!t.seen[l] || pieceText(p) == pieceText(known))
}

// take shows a look to the room in which the thing is.
func (t *trial) take(r api.Record, policy api.Policy) {
	t.thing.Layers[r.Look.Layer-1].Pieces[r.Look.Piece] = r.Piece
	t.seen[r.Look] = true
	seal, _, e := seals.Take(t.thing, t.seal, policy, r.Fact, r.Look)
	t.require(e == api.OK, api.BreachSealed)
	t.seal = seal
}

// isPaid reports whether the next records of the story are those of the money of the layers that are open now, and were not when fewer were.
func (t *trial) isPaid(opened int) bool {
	next := t.story[t.next+1:]
	for i := range min(t.seal.Opened-opened, len(next)) {
		if r := at(t.journals, next[i]); r.Kind != api.RecMoney || r.N != opened+1+i {
			return false
		}
	}
	return true
}

func (t *trial) hand(r api.Record) {
	t.begin(r, r.N == t.room && r.Room != t.room)
	s := t.scene(r, t.seal)
	t.require(r.Fact == s.fact, api.BreachFact)
	t.seal, _, _ = seals.Hand(t.thing, t.seal, s.policy, r.Fact, r.N)
	t.room = r.Room
}

func (t *trial) verdict(r api.Record) {
	t.begin(r, r.Room == t.room)
	s := t.scene(r, t.seal)
	t.require(r.Fact == s.fact, api.BreachFact)
	v := s.verdict(t.seal)
	t.require(r.Verdict == v.Kind && r.Person == v.Who.Person && r.Place == v.Place && r.Look == v.Look && r.N == v.Plan.Intrusion, api.BreachVerdict)
}

func (t *trial) handOut(r api.Record) {
	t.begin(r, r.Room == t.room)
	s := t.scene(r, t.seal)
	v, kind := s.verdict(t.seal), api.VerDeliver
	if r.Kind == api.RecReturn {
		kind = api.VerReturn
	}
	t.require(v.Kind == kind && v.Route.End.Person == r.Person && v.Place == r.Place, api.BreachVerdict)
	t.gone = true
	t.explain(-1, 0, s.fact)
}

func (t *trial) keep(r api.Record) {
	t.begin(r, r.Room == t.room)
	s := t.scene(r, t.seal)
	v := s.verdict(t.seal)
	isOut := (v.Kind == api.VerDeliver || v.Kind == api.VerReturn) && v.Place != 0
	t.require(v.Kind != api.VerLook && !isOut, api.BreachVerdict)
	t.explain(-1, 0, s.fact)
}

func (t *trial) ship(r api.Record) { t.begin(r, r.Room == t.room) }

func (t *trial) lose(r api.Record) {
	t.begin(r, r.Room == t.room)
	t.gone = true
}

func (t *trial) money(r api.Record) {
	t.begin(r, r.Room == t.room)
	t.require(t.due > 0, api.BreachMoney)
	t.due--
}

func (t *trial) receive(r api.Record) {
	t.begin(r, r.Person == t.room)
	closed, _ := seals.Begin(t.thing)
	s := t.scene(r, closed)
	t.require(r.Fact == s.fact, api.BreachFact)
	t.seal, _, _ = seals.Pass(t.thing, t.seal, s.policy, r.Fact, r.Person)
	t.room = r.Room
}
