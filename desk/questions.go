package desk

import (
	"slices"

	"restante/api"
	"restante/court"
	"restante/seals"
)

// Show returns what a room knows of the things that are in it.
func (d *Desk) Show(office, room int) ([]api.View, api.Errno) {
	b, e := d.open(office)
	switch {
	case e != api.OK:
		return nil, e
	case !isRoom(room):
		return nil, api.ErrArg
	}
	var views []api.View
	for _, token := range b.keeper.Held() {
		x := itemOf(token)
		if x.room != room || b.isAtDoor(token.Id) {
			continue
		}
		view, e := seals.See(x.thing, x.seal, room)
		if e != api.OK {
			return nil, e
		}
		views = append(views, view)
	}
	return views, api.OK
}

// Things returns the Ids of the things that an office has.
func (d *Desk) Things(office int) []int {
	b := d.branch(office)
	if b == nil {
		return nil
	}
	var ids []int
	for _, token := range b.keeper.Held() {
		ids = append(ids, token.Id)
	}
	return ids
}

// Where returns where a thing is.
func (d *Desk) Where(thing int) api.Site {
	if d == nil {
		return api.Site{}
	}
	for _, find := range []func(thing int) api.Site{d.inOffice, d.gone, d.inBag} {
		if site := find(thing); site.Kind != api.SiteNone {
			return site
		}
	}
	return api.Site{}
}

// inOffice returns the office that has a thing.
func (d *Desk) inOffice(thing int) api.Site {
	for id, b := range d.branches {
		x, ok := itemWith(b.keeper, thing)
		switch {
		case ok && b.isAtDoor(thing):
			return api.Site{Kind: api.SiteOffice, Office: id}
		case ok:
			return api.Site{Kind: api.SiteOffice, Office: id, Room: x.room}
		}
	}
	return api.Site{}
}

// gone returns the office that has lost a thing, or handed it out.
func (d *Desk) gone(thing int) api.Site {
	for id, b := range d.branches {
		for _, r := range b.records {
			if r.Thing != thing {
				continue
			}
			switch r.Kind {
			case api.RecLoss:
				return api.Site{Kind: api.SiteLost, Office: id}
			case api.RecDeliver:
				return api.Site{Kind: api.SiteDelivered, Office: id}
			case api.RecReturn:
				return api.Site{Kind: api.SiteReturned, Office: id}
			}
		}
	}
	return api.Site{}
}

// inBag returns the office for which the bag with a thing is.
func (d *Desk) inBag(thing int) api.Site {
	for id, b := range d.branches {
		for _, bag := range b.keeper.Bags() {
			if bag.Tokens[0].Id == thing && bag.Seq > d.branches[bag.To].keeper.Heard(id) {
				return api.Site{Kind: api.SiteBag, Office: bag.To}
			}
		}
	}
	return api.Site{}
}

// Journal returns the journal of an office.
func (d *Desk) Journal(office int) []api.Record {
	b := d.branch(office)
	if b == nil {
		return nil
	}
	list := slices.Clone(b.records)
	for i, r := range list {
		list[i].Goods = slices.Clone(r.Goods)
		list[i].Piece.Cells = slices.Clone(r.Piece.Cells)
		for j, cell := range r.Piece.Cells {
			list[i].Piece.Cells[j].Alts = slices.Clone(cell.Alts)
		}
	}
	return list
}

// Trial returns the balances of the ledger of an office for today.
func (d *Desk) Trial(office int) []api.TrialLine {
	b := d.branch(office)
	if b == nil {
		return nil
	}
	return b.ledger.Trial(d.today)
}

// Roots returns the length and the root of each journal.
func (d *Desk) Roots() []api.Root {
	if d == nil {
		return nil
	}
	var roots []api.Root
	for id, b := range d.branches {
		var digests []api.Hash
		for _, r := range b.records {
			digests = append(digests, court.Digest(r))
		}
		roots = append(roots, api.Root{Office: id, N: len(digests), Hash: court.Root(digests)})
	}
	return roots
}

// Audit judges what was done with a thing.
func (d *Desk) Audit(thing int) (api.Ruling, api.Errno) {
	if d == nil {
		return api.Ruling{}, api.ErrNil
	}
	return court.Audit(d.journals(), thing)
}
