package desk_test

import (
	"fmt"
	"math/rand"
	"testing"

	"restante/api"
	"restante/desk"
)

// otherwise returns a thing with the same dockets, of which some pieces say something else, and the goods are other ones.
func otherwise(r *rand.Rand, x api.Thing) api.Thing {
	y := api.Thing{Id: x.Id, Day: x.Day}
	for _, layer := range x.Layers {
		var z api.Layer
		for _, p := range layer.Pieces {
			if r.Intn(2) == 0 {
				p = piece(p.Kind, pick(r, "", "ann lee", "bob lee", "ayton", "ay(t|f:1)o(n|rd:1)", "north", "(a|b|c:3)nn lee"))
			}
			z.Pieces = append(z.Pieces, p)
		}
		if r.Intn(2) == 0 {
			z.Goods = []api.Amount{{Unit: pick(r, "crown", "ring", "gem"), N: 1 + r.Intn(5)}}
		}
		y.Layers = append(y.Layers, z)
	}
	return y
}

// viewOfThing returns what the room in which a thing is knows of it.
func viewOfThing(t *testing.T, d *desk.Desk, site api.Site, thing int) string {
	t.Helper()
	views, e := d.Show(site.Office, site.Room)
	same(t, "Show", e, api.OK)
	for _, v := range views {
		if v.Thing == thing {
			return fmt.Sprintf("%+v", v)
		}
	}
	t.Fatalf("the thing %d is not in the room %+v", thing, site)
	return ""
}

// moveBoth brings a thing to another room or office in both desks, if it is in a room.
func moveBoth(r *rand.Rand, both [2]*desk.Desk, site api.Site, thing int) {
	room, isShipped := 1+r.Intn(3), r.Intn(4) == 0
	for _, d := range both {
		if !isShipped {
			d.Hand(site.Office, thing, room)
			continue
		}
		d.Ship(site.Office, thing, 1-site.Office)
		d.Offer(site.Office)
		d.Carry(site.Office, 1-site.Office, 0)
		d.Unpack(1-site.Office, thing, room)
		d.Carry(1-site.Office, site.Office, 0)
	}
}

// P9.5: what a room shows of a thing, and its verdicts, depend on what it was shown alone: things that differ in pieces which it was not shown are treated alike, whatever else the desks did.
func TestSecrecy(t *testing.T) {
	t.Parallel()
	worked, apart, differs := 0, 0, 0
	for seed := range int64(500) {
		r := rand.New(rand.NewSource(seed))
		var both [2]*desk.Desk
		rules := pick(r, sources()[:4]...)
		for i := range both {
			both[i] = must(t, 2, api.MaxSectors, 100*i)
			for q := range 2 {
				furnish(t, both[i], q, rules)
			}
		}
		// The second desk has had something else to do.
		same(t, "Arrive", both[1].Arrive(0, 1, letter(20, "cat", "south")), api.OK)
		both[1].Work(0, 20)
		both[1].Claim(0, 1, 21, 1)
		x := randomThing(r, 7, 0)
		y := otherwise(r, x)
		room := 1 + r.Intn(3)
		if both[0].Arrive(0, room, x) != api.OK || both[1].Arrive(0, room, y) != api.OK {
			continue
		}
		for range 14 {
			site := both[0].Where(7)
			if site != both[1].Where(7) || site.Kind != api.SiteOffice || site.Room == 0 {
				break
			}
			if r.Intn(4) == 0 {
				day := both[0].Today() + 1
				for _, d := range both {
					d.Advance(day)
				}
			}
			if r.Intn(6) == 0 {
				for _, d := range both {
					d.Claim(site.Office, 1, 7, 1)
				}
			}
			if r.Intn(3) == 0 {
				moveBoth(r, both, site, 7)
				continue
			}
			a, b := viewOfThing(t, both[0], site, 7), viewOfThing(t, both[1], site, 7)
			v, e := both[0].Work(site.Office, 7)
			u, f := both[1].Work(site.Office, 7)
			if a != b {
				apart++
				break
			}
			if e == api.OK && f == api.OK {
				equal(t, fmt.Sprint(seed, ": the verdict"), u, v)
				worked++
				if fmt.Sprintf("%+v", x) != fmt.Sprintf("%+v", y) {
					differs++
				}
			} else if e != api.OK && e < 60 || f != api.OK && f < 60 {
				same(t, fmt.Sprint(seed, ": the error"), f, e)
			} else {
				break // the goods differ
			}
		}
	}
	if worked < 1000 || apart < 50 || differs < 500 {
		t.Fatal("too few cases:", worked, apart, differs)
	}
}
