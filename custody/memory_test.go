package custody_test

import (
	"fmt"
	"slices"
	"testing"

	"restante/api"
	"restante/custody"
)

// whole returns all that is in a slice and in the memory behind it.
func whole[T any](s []T) []T { return s[:cap(s)] }

// spoil changes all that is in a slice and in the memory behind it.
func spoil[T any](s []T) {
	var zero T
	for i := range whole(s) {
		whole(s)[i] = zero
	}
}

// R3: what is returned may be changed, and so may what was an argument.
func TestMemoryOfDisks(t *testing.T) {
	d := newDisk(t, 16)
	b := slices.Grow([]byte("abc"), 100)
	before := string(whole(b))
	same(t, "Write", d.Write(3, b), api.OK)
	same(t, "the bytes and those behind them", string(whole(b)), before)
	spoil(b)
	keep := slices.Grow([]int{2, 100, -5}, 5)
	text := fmt.Sprint(whole(keep))
	d.Write(4, []byte("x"))
	d.Crash(keep)
	same(t, "the numbers and those behind them", fmt.Sprint(whole(keep)), text)
	spoil(keep)
	got, _ := d.Read(3)
	same(t, "the bytes", string(got[:4]), "ab\x00\x00")
	spoil(got)
	got, _ = d.Read(3)
	same(t, "the bytes", string(got[:4]), "ab\x00\x00")
	d.Write(3, []byte("pending"))
	got, _ = d.Read(3)
	spoil(got)
	d.Crash([]int{64})
	got, _ = d.Read(3)
	same(t, "the bytes", string(got[:8]), "pending\x00")
}

func TestMemoryOfJournals(t *testing.T) {
	x := newTrial(t, 100)
	for i := range 5 {
		x.append(fmt.Sprint("record ", i))
	}
	x.open()
	_, records, _ := custody.Open(x.d)
	spoil(records)
	x.open()
	x.append("more")
	x.open()
}

func TestMemoryOfBags(t *testing.T) {
	b := bag(0, 1, 3, token(7, "ab"), token(8, "cd"))
	b.Tokens = slices.Grow(b.Tokens, 5)
	before := fmt.Sprint(whole(b.Tokens))
	text, e := custody.PutBag(b)
	same(t, "PutBag", e, api.OK)
	same(t, "the tokens and those behind them", fmt.Sprint(whole(b.Tokens)), before)
	one, _ := custody.GetBag(text)
	other, _ := custody.GetBag(text)
	spoil(one.Tokens)
	sameBag(t, "the other bag", other, bag(0, 1, 3, token(7, "ab"), token(8, "cd")))
}

func TestMemoryOfOffices(t *testing.T) {
	d := newDisk(t, 1000)
	o, p := start(t, d, 0), newPlainOffice(0)
	check := func() {
		t.Helper()
		same(t, "the office", textOfHouse(o), textOfHouse(p))
	}
	for id := 1; id <= 8; id++ {
		c := enter(id, fmt.Sprint("body ", id), "note")
		same(t, c.what, both(t, o, p, c), api.OK)
	}
	for _, c := range []call{burn("lost", 8, 7), ship(1, "shipped", 2, 1), ship(1, "", 3), ship(2, "", 4)} {
		same(t, c.what, both(t, o, p, c), api.OK)
	}
	check()
	spoil(o.Held())
	spoil(o.Lost())
	spoil(o.Notes())
	spoil(o.Offer())
	bags := o.Bags()
	for _, b := range bags {
		spoil(b.Tokens)
	}
	spoil(bags)
	check()
	ids := slices.Grow([]int{6, 5}, 6)
	before := fmt.Sprint(whole(ids))
	seq, e := o.Ship(1, ids, "")
	same(t, "Ship", fmt.Sprint(seq, e), "3 0")
	same(t, "Burn", o.Burn(ids, ""), api.ErrNone)
	same(t, "Leave", o.Leave(ids, ""), api.ErrNone)
	same(t, "the Ids and what is behind them", fmt.Sprint(whole(ids)), before)
	spoil(ids)
	p.Ship(1, []int{6, 5}, "")
	check()
	bags = o.Bags()
	spoil(bags[0].Tokens)
	// What was returned before does not change.
	held, kept := o.Held(), fmt.Sprint(bags[1:])
	done(t, o, hear("got 1 0 1\n", ""), hear("bag 1 0 1\n9 0\n\n", ""))
	same(t, "the bags", fmt.Sprint(bags[1:]), kept)
	same(t, "Held", len(held), 0)
	for _, c := range []call{hear("got 1 0 1\n", ""), hear("bag 1 0 1\n9 0\n\n", "")} {
		done(t, p, c)
	}
	check()
	o = start(t, d, 0)
	check()
}

// R4: disks, networks and offices do not know of each other.
func TestObjectsAreApart(t *testing.T) {
	one, other := newDisk(t, 100), newDisk(t, 100)
	o, p := start(t, one, 0), start(t, other, 0)
	done(t, o, enter(1, "one", "note"), ship(1, "", 1))
	same(t, "the other office", textOfHouse(p), textOfHouse(newPlainOffice(0)))
	same(t, "Stop", one.Stop(0), api.OK)
	done(t, p, enter(1, "other", ""))
	one.Crash(nil)
	same(t, "the first office", textOfHouse(start(t, one, 0)), textOfHouse(o))
	n, m := newNet(t, 3), newNet(t, 3)
	n.Send(0, 1, "m")
	same(t, "Waiting", m.Waiting(0, 1), 0)
}
