package court

import (
	"restante/api"
	"restante/seals"
)

// breach is the panic with which a trial is left.
type breach struct {
	at   api.Ref
	what uint8
}

// trial is the reading of the story of a thing, record by record: what is known before a record.
type trial struct {
	journals [][]api.Record
	pasts    map[int]*past // of the journals that were needed
	story    []api.Ref
	next     int // the index in the story
	thing    api.Thing
	seen     map[api.Look]bool // the looks of the story
	seal     api.Seal
	room     int
	gone     bool
	due      int // how many records of money are still to follow the last look
	reasons  []api.Reason
}

// Audit judges a thing.
func Audit(journals [][]api.Record, thing int) (ruling api.Ruling, e api.Errno) {
	if e := checkJournals(journals); e != api.OK {
		return api.Ruling{}, e
	}
	if !within(thing, 1, api.MaxId) || !hasRecord(journals, func(r *api.Record) bool { return r.Thing == thing }) {
		return api.Ruling{Answer: api.AnswerNothing}, api.OK
	}
	t := newTrial(journals, thing)
	defer func() {
		ruling.Reasons = t.reasons
		if found, ok := recover().(breach); ok {
			ruling.Answer, ruling.Breach, ruling.What = api.AnswerBreach, found.at, found.what
		}
	}()
	t.readStory()
	t.readOthers(thing)
	return api.Ruling{Answer: api.AnswerRight}, api.OK
}

func newTrial(journals [][]api.Record, thing int) *trial {
	t := &trial{journals: journals, pasts: map[int]*past{}, story: storyOf(journals, thing), seen: map[api.Look]bool{}}
	if len(t.story) > 0 {
		t.thing = thingOf(at(journals, t.story[0]))
		t.seal, _ = seals.Begin(t.thing)
	}
	return t
}

// thingOf returns what a record of an arrival says of a thing.
func thingOf(r api.Record) api.Thing {
	t := api.Thing{Id: r.Thing, Day: r.N}
	for _, kinds := range docketsOf(r.Text) {
		var layer api.Layer
		for _, kind := range []byte(kinds) {
			layer.Pieces = append(layer.Pieces, api.Piece{Kind: kind - '0'})
		}
		t.Layers = append(t.Layers, layer)
	}
	return t
}

func (t *trial) readStory() {
	todo := steps()
	for i, ref := range t.story {
		t.next = i
		r := at(t.journals, ref)
		todo[r.Kind](t, r)
	}
}

// require leaves the trial unless a condition holds at the record of the story.
func (t *trial) require(holds bool, what uint8) {
	if !holds {
		panic(breach{t.story[t.next], what})
	}
}

// begin looks for what may be wrong at records of all kinds: the custody, of which a kind has a condition of its own, and the day.
func (t *trial) begin(r api.Record, holds bool) {
	var before api.Record
	if t.next > 0 {
		before = at(t.journals, t.story[t.next-1])
	}
	comes := (r.Kind == api.RecArrive) == (t.next == 0) && (r.Kind == api.RecReceive) == (before.Kind == api.RecShip)
	t.require(!t.gone && comes && holds, api.BreachCustody)
	t.require(r.Day >= before.Day && r.Day >= t.thing.Day, api.BreachTime)
}

// explain adds the reason of the record.
func (t *trial) explain(rule, cost int, f api.Fact) {
	t.reasons = append(t.reasons, api.Reason{Ref: t.story[t.next], Rule: rule, Cost: cost, Left: leftOf(f)})
}

func leftOf(f api.Fact) int { return 10*int(f.To) + int(f.From) }
