package custody

import (
	"maps"
	"slices"

	"restante/api"
)

// Office is an office that holds tokens; its journal has a record of each of its operations.
type Office struct {
	journal
	state
}

// Start returns the office that a disk contains.
func Start(d *Disk, id int) (o *Office, e api.Errno) {
	defer func() {
		if recover() != nil {
			o, e = nil, api.ErrSpoilt
		}
	}()
	if !isOffice(id) {
		return nil, api.ErrArg
	}
	j, records, e := Open(d)
	if e != api.OK {
		return nil, e
	}
	o = &Office{journal: j.journal, state: state{id: id, held: map[int]string{}, lost: map[int]bool{}}}
	for _, record := range records {
		o.follow(record)
	}
	return o, api.OK
}

// follow does the operation with a record; it panics unless the office could have written the record.
func (o *Office) follow(record string) {
	x := readOperation(record)
	if x.office != o.id || o.refuses(x) != api.OK || x.text() != record {
		panic(api.ErrSpoilt)
	}
	o.apply(x)
}

// perform does an operation; its record is durable before the office changes.
func (o *Office) perform(x operation) api.Errno {
	if o == nil {
		return api.ErrNil
	}
	x.office = o.id
	if e := o.refuses(x); e != api.OK {
		return e
	}
	if e := o.add(x.text()); e != api.OK {
		return e
	}
	o.apply(x)
	return api.OK
}

// Enter takes a token from outside.
func (o *Office) Enter(t api.Token, note string) api.Errno {
	return o.perform(operation{kind: entering, token: t, note: note})
}

// Change gives a held token a new Body.
func (o *Office) Change(t api.Token, note string) api.Errno {
	return o.perform(operation{kind: changing, token: t, note: note})
}

// Note leaves a note.
func (o *Office) Note(note string) api.Errno {
	return o.perform(operation{kind: noting, note: note})
}

// Ship puts held tokens into a bag for another office, and returns its Seq.
func (o *Office) Ship(to int, ids []int, note string) (int, api.Errno) {
	if e := o.perform(operation{kind: shipping, to: to, ids: ids, note: note}); e != api.OK {
		return 0, e
	}
	return o.shipped[to], api.OK
}

// Hear processes a message, and returns the answer to it.
func (o *Office) Hear(m, note string) (answer string, e api.Errno) {
	defer func() {
		if recover() != nil {
			answer, e = "", api.ErrForm
		}
	}()
	if o == nil {
		return "", api.ErrNil
	}
	if e := refusesNote(note); e != api.OK {
		return "", e
	}
	x := readMessage(m)
	if x.bag.To != o.id {
		return "", api.ErrArg
	}
	// What has no effect is answered even if nothing can be written any more.
	if o.matters(x) {
		if e := o.perform(operation{kind: hearing, what: x, note: note}); e != api.OK {
			return "", e
		}
	}
	return o.answer(x), api.OK
}

// Burn records that held tokens are lost.
func (o *Office) Burn(ids []int, note string) api.Errno {
	return o.perform(operation{kind: burning, ids: ids, note: note})
}

// Leave hands out held tokens.
func (o *Office) Leave(ids []int, note string) api.Errno {
	return o.perform(operation{kind: leaving, ids: ids, note: note})
}

// known returns the state of an office; that of a nil office is empty.
func (o *Office) known() state {
	if o == nil {
		return state{}
	}
	return o.state
}

// Held returns the tokens that the office holds.
func (o *Office) Held() []api.Token {
	s := o.known()
	return s.tokens()
}

// Bags returns the bags that were not acknowledged.
func (o *Office) Bags() []api.Bag {
	var list []api.Bag
	for _, bags := range o.known().bags {
		for _, b := range bags {
			b.Tokens = slices.Clone(b.Tokens)
			list = append(list, b)
		}
	}
	return list
}

// Offer returns a letter for each bag that was not acknowledged.
func (o *Office) Offer() []api.Letter {
	var letters []api.Letter
	for _, b := range o.Bags() {
		letters = append(letters, api.Letter{To: b.To, Text: message{bagWord, b}.text()})
	}
	return letters
}

// Lost returns the Ids of lost tokens.
func (o *Office) Lost() []int { return slices.Sorted(maps.Keys(o.known().lost)) }

// Heard returns how many bags the office received from another one.
func (o *Office) Heard(from int) int {
	if !isOffice(from) {
		return 0
	}
	return o.known().received[from]
}

// Notes returns the notes.
func (o *Office) Notes() []string { return slices.Clone(o.known().notes) }
