package court

import (
	"strings"

	"restante/api"
	"restante/reading"
)

// Limits of the fields of records.
const (
	mostNumber  = api.MaxId     // of bags and claims
	mostSums    = 16            // of payments and refunds
	mostPaid    = 2000000000000 // of one unit in a payment or a refund
	mostCost    = 4000          // the intrusion of a plan
	docketKinds = "123456"      // the digits of the kinds of pieces
	docketEnd   = "/"           // behind the digits of a layer
)

// span is the numbers that a field may have.
type span struct{ least, most int }

func (s span) has(n int) bool { return s.least <= n && n <= s.most }

func within(n, least, most int) bool { return span{least, most}.has(n) }

// shape says what the fields of a record may be. A field that it does not name is zero.
type shape struct {
	room, thing, person, place, n, verdict span
	fact, look, piece, text                bool
	goods                                  int // how many elements
	worth                                  int // the greatest N of these
}

// shapeOf returns the row of the table of records for a record; false if there is none.
func shapeOf(r api.Record) (shape, bool) {
	rooms, ids, days := span{1, api.MaxRooms}, span{1, api.MaxId}, span{0, api.MaxDay}
	offices, numbers, asks := span{0, api.MaxOffices - 1}, span{1, mostNumber}, span{1, 3}
	switch r.Kind {
	case api.RecArrive:
		return shape{room: rooms, thing: ids, n: days, text: true}, true
	case api.RecLook:
		return shape{room: rooms, thing: ids, fact: true, look: true, piece: true}, true
	case api.RecHand:
		return shape{room: rooms, thing: ids, fact: true, n: rooms}, true
	case api.RecVerdict:
		some := span{0, api.MaxId}
		return shape{room: rooms, thing: ids, fact: true, verdict: span{1, 5}, person: some, place: some, look: r.Verdict == api.VerLook, n: span{0, mostCost}}, true
	case api.RecDeliver, api.RecReturn:
		return shape{room: rooms, thing: ids, person: ids, place: ids}, true
	case api.RecKeep, api.RecLoss:
		return shape{room: rooms, thing: ids}, true
	case api.RecShip:
		return shape{room: rooms, thing: ids, place: offices, n: numbers}, true
	case api.RecMoney:
		return shapeOfMoney(r.Verdict)
	case api.RecRules, api.RecBook:
		return shape{text: true}, true
	case api.RecClaim:
		return shape{thing: ids, person: ids, n: numbers, verdict: asks}, true
	case api.RecAnswer:
		return shape{thing: ids, n: numbers, verdict: asks}, true
	case api.RecReceive:
		return shape{room: rooms, thing: ids, fact: true, place: offices, n: numbers, person: rooms}, true
	}
	return shape{}, false
}

func shapeOfMoney(why uint8) (shape, bool) {
	s := shape{room: span{1, api.MaxRooms}, thing: span{1, api.MaxId}, verdict: span{int(why), int(why)}}
	switch why {
	case api.WhyDeposit:
		s.n, s.goods, s.worth = span{1, api.MaxLayers}, api.MaxGoods, api.MaxN
		return s, true
	case api.WhyPay, api.WhyRefund:
		s.person, s.goods, s.worth = span{1, api.MaxId}, mostSums, mostPaid
		return s, true
	}
	return shape{}, false
}

// isRecord reports whether a record is well-formed.
func isRecord(r api.Record) bool {
	s, ok := shapeOf(r)
	return ok && within(r.Seq, 0, api.MaxSeq) && within(r.Day, 0, api.MaxDay) && within(r.Office, 0, api.MaxOffices-1) && within(r.Salt, 0, api.MaxSalt) &&
		s.room.has(r.Room) && s.thing.has(r.Thing) && s.person.has(r.Person) && s.place.has(r.Place) && s.n.has(r.N) && s.verdict.has(int(r.Verdict)) &&
		isFact(r.Fact, s.fact) && isLook(r.Look, s.look) && isPiece(r.Piece, s.piece) && isGoods(r.Goods, s.goods, s.worth) &&
		isText(r, s.text) && isBetweenOffices(r)
}

func isFact(f api.Fact, named bool) bool {
	if !named {
		return f == api.Fact{}
	}
	return within(f.Room, 1, api.MaxRooms) && within(f.Layer, 1, api.MaxLayers) && within(f.Days, 0, api.MaxDay) && f.To <= api.LeftMany && f.From <= api.LeftMany
}

func isLook(l api.Look, named bool) bool {
	if !named {
		return l == api.Look{}
	}
	return within(l.Layer, 1, api.MaxLayers) && within(l.Piece, 0, api.MaxOfLayer-1)
}

func isPiece(p api.Piece, named bool) bool {
	if !named {
		return p.Kind == 0 && len(p.Cells) == 0
	}
	return within(int(p.Kind), int(api.PieceToName), int(api.PieceFromRegion)) && reading.CheckCells(p.Cells) == api.OK
}

func isGoods(l []api.Amount, most, worth int) bool {
	if len(l) > most {
		return false
	}
	for i, x := range l {
		if !reading.IsName(x.Unit) || !within(x.N, 1, worth) || i > 0 && x.Unit <= l[i-1].Unit {
			return false
		}
	}
	return true
}

func isText(r api.Record, named bool) bool {
	if !named {
		return r.Text == ""
	}
	return len(r.Text) <= api.MaxSource && (r.Kind != api.RecArrive || isDocketText(r.Text))
}

// isBetweenOffices reports whether a record of a bag names another office.
func isBetweenOffices(r api.Record) bool {
	return r.Kind != api.RecShip && r.Kind != api.RecReceive || r.Place != r.Office
}

func isDocketText(s string) bool {
	pieces := len(s) - strings.Count(s, docketEnd)
	layers := docketsOf(s)
	if !strings.HasSuffix(s, docketEnd) || !within(len(layers), 1, api.MaxLayers) || pieces > api.MaxPieces {
		return false
	}
	for _, l := range layers {
		if len(l) > api.MaxOfLayer || strings.Trim(l, docketKinds) != "" {
			return false
		}
	}
	return true
}

// docketsOf returns the digits of each layer of a docket text.
func docketsOf(s string) []string { return strings.Split(strings.TrimSuffix(s, docketEnd), docketEnd) }
