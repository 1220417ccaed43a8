package drawers_test

import (
	"cmp"
	"maps"
	"slices"

	"restante/api"
)

// The oracle of the tests follows the chapter word by word, without any of the package's own code: days pass one by one, every sum is counted from the postings, and a call that returns an error is undone by putting everything back.

type oracle struct {
	day      int
	kinds    map[string]uint8
	values   []valueSet
	terms    []termSet
	lots     []api.Lot
	postings []api.Posting
}

type valueSet struct {
	day, grains int
	unit        string
}

type termSet struct {
	day, least, days int
	unit             string
}

func newOracle() *oracle { return &oracle{kinds: map[string]uint8{}} }

// copied returns an oracle that shares nothing with o.
func (o *oracle) copied() oracle {
	c := *o
	c.kinds = maps.Clone(o.kinds)
	c.values, c.terms = slices.Clone(o.values), slices.Clone(o.terms)
	c.lots, c.postings = slices.Clone(o.lots), slices.Clone(o.postings)
	return c
}

// do is what all operations have in common.
func (o *oracle) do(day int, run func() api.Errno) api.Errno {
	if day < 0 || day > 100000 {
		return api.ErrArg
	}
	if day < o.day {
		return api.ErrTime
	}
	before := o.copied()
	for d := o.day; d <= day; d++ {
		for i := range o.lots {
			if o.lots[i].State == api.LotOpen && o.lots[i].Due == d {
				o.forfeit(i, d)
			}
		}
		o.day = d
	}
	e := run()
	if e == api.OK && len(o.postings) > 20000 {
		e = api.ErrLimit
	}
	if e != api.OK {
		*o = before
	}
	return e
}

func (o *oracle) post(i, n int, from, to api.Account, why uint8, day int) {
	o.postings = append(o.postings, api.Posting{Day: day, Unit: o.lots[i].Unit, N: n, From: from, To: to, Why: why, Lot: i + 1})
}

func (o *oracle) forfeit(i, day int) {
	o.post(i, o.lots[i].Left, thingAccount(o.lots[i].Thing), crown, api.WhyForfeit, day)
	o.lots[i].State = api.LotForfeit
}

// forfeitNow forfeits some lots that are due on the day, by Due, then by Id.
func (o *oracle) forfeitNow(which []int) {
	for due := 1; due <= o.day; due++ {
		for _, i := range which {
			if o.lots[i].State == api.LotOpen && o.lots[i].Due == due {
				o.forfeit(i, o.day)
			}
		}
	}
}

var (
	outside = api.Account{Kind: 1}
	crown   = api.Account{Kind: 4}
	lost    = api.Account{Kind: 5}
	bank    = api.Account{Kind: 6}
)

func thingAccount(thing int) api.Account { return api.Account{Kind: 2, Id: thing} }

func personAccount(person int) api.Account { return api.Account{Kind: 3, Id: person} }

func bagAccount(bag int) api.Account { return api.Account{Kind: 7, Id: bag} }

func isId(n int) bool { return n >= 1 && n <= 1000000 }

func isName(s string) bool {
	for i := range len(s) {
		c := s[i]
		if !(c >= 'a' && c <= 'z' || c >= '0' && c <= '9' || c == ' ' || c == '-') {
			return false
		}
	}
	return len(s) >= 1 && len(s) <= 24 && s[0] != ' ' && s[len(s)-1] != ' '
}

func (o *oracle) Day() int { return o.day }

func (o *oracle) SetUnit(day int, unit string, kind uint8) api.Errno {
	return o.do(day, func() api.Errno {
		if !isName(unit) {
			return api.ErrForm
		}
		if kind != 1 && kind != 2 && kind != 3 {
			return api.ErrArg
		}
		if o.kinds[unit] != 0 {
			return api.ErrTwice
		}
		if len(o.kinds) == 16 {
			return api.ErrLimit
		}
		o.kinds[unit] = kind
		return api.OK
	})
}

func (o *oracle) SetValue(day int, unit string, grains int) api.Errno {
	return o.do(day, func() api.Errno {
		if o.kinds[unit] != 1 && o.kinds[unit] != 2 {
			return api.ErrUnit
		}
		if grains < 1 || grains > 100000 {
			return api.ErrArg
		}
		o.values = append(o.values, valueSet{day: day, grains: grains, unit: unit})
		return api.OK
	})
}

func (o *oracle) Value(unit string, day int) int {
	grains := 0
	for _, v := range o.values {
		if v.unit == unit && v.day <= day {
			grains = v.grains
		}
	}
	return grains
}

func (o *oracle) SetTerm(day int, unit string, least, days int) api.Errno {
	return o.do(day, func() api.Errno {
		if o.kinds[unit] == 0 {
			return api.ErrUnit
		}
		if least < 1 || least > 1000000000 || days < 1 || days > 40000 {
			return api.ErrArg
		}
		if len(o.terms) == 64 {
			return api.ErrLimit
		}
		o.terms = append(o.terms, termSet{day: day, unit: unit, least: least, days: days})
		return api.OK
	})
}

func (o *oracle) Term(unit string, n, day int) int {
	terms := slices.DeleteFunc(slices.Clone(o.terms), func(t termSet) bool { return t.unit != unit || t.day > day || t.least > n })
	if len(terms) == 0 {
		return 0
	}
	slices.SortStableFunc(terms, func(a, b termSet) int { return cmp.Compare(a.least, b.least) })
	return terms[len(terms)-1].days
}

func (o *oracle) Advance(day int) (int, api.Errno) {
	count := len(o.postings)
	e := o.do(day, func() api.Errno { return api.OK })
	return len(o.postings) - count, e
}

// add makes a lot, and returns its Id.
func (o *oracle) add(thing, layer, due int, unit string, n int, from api.Account, why uint8) int {
	o.lots = append(o.lots, api.Lot{Id: len(o.lots) + 1, Thing: thing, Layer: layer, Day: o.day, Due: due, Unit: unit, N: n, Left: n, State: api.LotOpen})
	o.post(len(o.lots)-1, n, from, thingAccount(thing), why, o.day)
	return len(o.lots)
}

func (o *oracle) Deposit(day, thing, layer int, goods []api.Amount) ([]int, api.Errno) {
	var ids []int
	e := o.do(day, func() api.Errno {
		if !isId(thing) || layer < 1 || layer > 3 {
			return api.ErrArg
		}
		if len(goods) > 6 {
			return api.ErrLimit
		}
		for i, x := range goods {
			if x.N < 1 || x.N > 1000000000 || i > 0 && x.Unit <= goods[i-1].Unit {
				return api.ErrArg
			}
			if o.kinds[x.Unit] == 0 {
				return api.ErrUnit
			}
		}
		for _, lot := range o.lots {
			if lot.Thing == thing && lot.Layer == layer {
				return api.ErrTwice
			}
		}
		for _, x := range goods {
			due := 100001
			if days := o.Term(x.Unit, x.N, day); days > 0 && day+days < 100001 {
				due = day + days
			}
			ids = append(ids, o.add(thing, layer, due, x.Unit, x.N, outside, api.WhyDeposit))
		}
		if len(o.lots) > 2000 {
			return api.ErrLimit
		}
		return api.OK
	})
	return only(e, ids), e
}

// only returns a list if there was no error.
func only[T any](e api.Errno, list []T) []T {
	if e != api.OK {
		return nil
	}
	return list
}

// in returns the indices of the lots of a thing in a state.
func (o *oracle) in(state uint8, thing int) []int {
	var which []int
	for i, lot := range o.lots {
		if lot.Thing == thing && lot.State == state {
			which = append(which, i)
		}
	}
	return which
}

// each does something with each lot of a thing in a state; run returns how many units it counts for.
func (o *oracle) each(day int, state uint8, ids []int, run func(i int) int) ([]api.Amount, api.Errno) {
	sums := map[string]int{}
	e := o.do(day, func() api.Errno {
		for _, id := range ids {
			if !isId(id) {
				return api.ErrArg
			}
		}
		which := o.in(state, ids[0])
		if len(which) == 0 {
			return api.ErrNone
		}
		for _, i := range which {
			sums[o.lots[i].Unit] += run(i)
		}
		if state == api.LotLost {
			o.forfeitNow(which)
		}
		return api.OK
	})
	return only(e, sumsAsAmounts(sums)), e
}

func sumsAsAmounts(sums map[string]int) []api.Amount {
	var list []api.Amount
	for _, unit := range slices.Sorted(maps.Keys(sums)) {
		if sums[unit] != 0 {
			list = append(list, api.Amount{Unit: unit, N: sums[unit]})
		}
	}
	return list
}

func (o *oracle) Pay(day, thing, person int) ([]api.Amount, api.Errno) {
	return o.each(day, api.LotOpen, []int{thing, person}, func(i int) int {
		n := o.lots[i].Left
		o.post(i, n, thingAccount(thing), personAccount(person), api.WhyPay, day)
		o.lots[i].Left, o.lots[i].State = 0, api.LotPaid
		return n
	})
}

func (o *oracle) Take(day, thing int, unit string, n, person int) api.Errno {
	return o.do(day, func() api.Errno {
		if !isId(thing) || !isId(person) || n < 1 {
			return api.ErrArg
		}
		if o.kinds[unit] == 0 {
			return api.ErrUnit
		}
		which := slices.DeleteFunc(o.in(api.LotOpen, thing), func(i int) bool { return o.lots[i].Unit != unit })
		slices.SortStableFunc(which, func(i, j int) int { return cmp.Compare(o.lots[i].Due, o.lots[j].Due) })
		left := 0
		for _, i := range which {
			left += o.lots[i].Left
		}
		if left < n {
			return api.ErrEmpty
		}
		for _, i := range which {
			part := min(n, o.lots[i].Left)
			if part == 0 {
				break
			}
			o.post(i, part, thingAccount(thing), personAccount(person), api.WhyPay, day)
			n -= part
			o.lots[i].Left -= part
			if o.lots[i].Left == 0 {
				o.lots[i].State = api.LotPaid
			}
		}
		return api.OK
	})
}

func (o *oracle) Convert(day, lot int, to string, n int) (int, int, api.Errno) {
	m, k := 0, 0
	e := o.do(day, func() api.Errno {
		if lot < 1 || lot > len(o.lots) || o.lots[lot-1].State != api.LotOpen {
			return api.ErrNone
		}
		x := o.lots[lot-1]
		if o.kinds[to] == 0 || to == x.Unit || o.Value(x.Unit, day) == 0 || o.Value(to, day) == 0 {
			return api.ErrUnit
		}
		if n < 1 {
			return api.ErrArg
		}
		if n > x.Left {
			return api.ErrEmpty
		}
		for m = n; m > 0; m-- {
			worth := m * o.Value(x.Unit, day)
			k = worth / o.Value(to, day)
			if worth%o.Value(to, day) == 0 && k <= 1000000000 {
				break
			}
		}
		if m == 0 {
			return api.ErrEmpty
		}
		if len(o.lots) == 2000 {
			return api.ErrLimit
		}
		o.post(lot-1, m, thingAccount(x.Thing), bank, api.WhyConvert, day)
		o.lots[lot-1].Left -= m
		if o.lots[lot-1].Left == 0 {
			o.lots[lot-1].State = api.LotPaid
		}
		o.add(x.Thing, x.Layer, x.Due, to, k, bank, api.WhyConvert)
		return api.OK
	})
	if e != api.OK {
		return 0, 0, e
	}
	return m, k, e
}

func (o *oracle) Refund(day, thing, person int) ([]api.Amount, api.Errno) {
	sums := map[string]int{}
	e := o.do(day, func() api.Errno {
		if !isId(thing) || !isId(person) {
			return api.ErrArg
		}
		if len(o.in(api.LotForfeit, thing)) == 0 {
			return api.ErrNone
		}
		late := true
		for _, i := range o.in(api.LotForfeit, thing) {
			if day-o.lots[i].Due > 1095 {
				continue
			}
			late = false
			fee := 0
			for fee*20 < o.lots[i].Left {
				fee++
			}
			rest := o.lots[i].Left - fee
			sums[o.lots[i].Unit] += rest
			if rest > 0 {
				o.post(i, rest, crown, personAccount(person), api.WhyRefund, day)
			}
			o.lots[i].Left, o.lots[i].State = 0, api.LotRefunded
		}
		if late {
			return api.ErrLate
		}
		return api.OK
	})
	return only(e, sumsAsAmounts(sums)), e
}

func (o *oracle) Lose(day, thing int) ([]api.Amount, api.Errno) {
	return o.each(day, api.LotOpen, []int{thing}, func(i int) int {
		o.post(i, o.lots[i].Left, thingAccount(thing), lost, api.WhyLose, day)
		o.lots[i].State = api.LotLost
		return o.lots[i].Left
	})
}

func (o *oracle) Recover(day, thing int) ([]api.Amount, api.Errno) {
	return o.each(day, api.LotLost, []int{thing}, func(i int) int {
		o.post(i, o.lots[i].Left, lost, thingAccount(thing), api.WhyRecover, day)
		o.lots[i].State = api.LotOpen
		return o.lots[i].Left
	})
}

func (o *oracle) Dispatch(day, thing, bag int) ([]api.Lot, api.Errno) {
	var lots []api.Lot
	_, e := o.each(day, api.LotOpen, []int{thing, bag}, func(i int) int {
		o.post(i, o.lots[i].Left, thingAccount(thing), bagAccount(bag), api.WhyDispatch, day)
		o.lots[i].State, o.lots[i].Bag = api.LotBag, bag
		lots = append(lots, o.lots[i])
		return 0
	})
	return only(e, lots), e
}

func (o *oracle) Arrived(day, bag int) (int, api.Errno) {
	count := 0
	e := o.do(day, func() api.Errno {
		if !isId(bag) {
			return api.ErrArg
		}
		for i, lot := range o.lots {
			if lot.State == api.LotBag && lot.Bag == bag {
				o.post(i, lot.Left, bagAccount(bag), outside, api.WhyArrive, day)
				o.lots[i].Left, o.lots[i].State = 0, api.LotGone
				count++
			}
		}
		if count == 0 {
			return api.ErrNone
		}
		return api.OK
	})
	if e != api.OK {
		return 0, e
	}
	return count, e
}

func (o *oracle) Receive(day int, lots []api.Lot) ([]int, api.Errno) {
	var ids, which []int
	e := o.do(day, func() api.Errno {
		for _, x := range lots {
			if !isId(x.Thing) || x.Layer < 1 || x.Layer > 3 || x.Due < 1 || x.Due > 100001 || x.Left < 1 || x.Left > 1000000000 {
				return api.ErrArg
			}
			if o.kinds[x.Unit] == 0 {
				return api.ErrUnit
			}
		}
		for _, x := range lots {
			id := o.add(x.Thing, x.Layer, x.Due, x.Unit, x.Left, outside, api.WhyReceive)
			ids = append(ids, id)
			which = append(which, id-1)
		}
		if len(o.lots) > 2000 {
			return api.ErrLimit
		}
		o.forfeitNow(which)
		return api.OK
	})
	return only(e, ids), e
}
