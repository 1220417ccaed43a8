package desk

import (
	"restante/api"
	"restante/court"
	"restante/reading"
)

// one returns the step of a command that has a number.
func (r *runner) one(do func(d *Desk, n int) api.Errno) func() {
	n := r.number()
	return r.doing(func(d *Desk) api.Errno { return do(d, n) })
}

// two returns the step of a command that has two numbers.
func (r *runner) two(do func(d *Desk, n, m int) api.Errno) func() {
	n, m := r.number(), r.number()
	return r.doing(func(d *Desk) api.Errno { return do(d, n, m) })
}

// three returns the step of a command that has three numbers.
func (r *runner) three(do func(d *Desk, n, m, k int) api.Errno) func() {
	n, m, k := r.number(), r.number(), r.number()
	return r.doing(func(d *Desk) api.Errno { return do(d, n, m, k) })
}

// told returns the step of a command that has a number and a line.
func (r *runner) told(do func(d *Desk, office int, line string) api.Errno) func() {
	office, line := r.number(), r.rest()
	return r.doing(func(d *Desk) api.Errno { return do(d, office, line) })
}

func (r *runner) newDesk() func() {
	c := api.Config{Offices: r.number(), Sectors: r.number(), Salt: r.number()}
	return func() {
		d, e := New(c)
		if e != api.OK {
			r.print(words("error", int(e)))
			return
		}
		r.desk = d
		r.print("ok")
	}
}

func (r *runner) day() func() { return r.one((*Desk).Advance) }

func (r *runner) rules() func() {
	office, count := r.number(), r.number()
	require(count <= len(r.lines)-r.at)
	source := ""
	for _, line := range r.lines[r.at:][:count] {
		source += line + "\n"
	}
	r.at += count
	return r.doing(func(d *Desk) api.Errno { return d.Rules(office, source) })
}

func (r *runner) publish() func() { return r.told((*Desk).Publish) }
func (r *runner) money() func()   { return r.told((*Desk).Money) }

func (r *runner) begin() func() {
	r.thing = &api.Thing{Id: r.number(), Day: r.number()}
	return nil
}

func (r *runner) layer() func() {
	require(r.thing != nil)
	r.thing.Layers = append(r.thing.Layers, api.Layer{})
	return nil
}

// last returns the last layer of the thing that was begun.
func (r *runner) last() *api.Layer {
	require(r.thing != nil && len(r.thing.Layers) > 0)
	return &r.thing.Layers[len(r.thing.Layers)-1]
}

func (r *runner) piece() func() {
	layer := r.last()
	kind, text := r.short(), r.rest()
	cells, e := reading.Parse(text)
	require(e == api.OK)
	layer.Pieces = append(layer.Pieces, api.Piece{Kind: kind, Cells: cells})
	return nil
}

func (r *runner) goods() func() {
	layer := r.last()
	n, unit := r.number(), r.rest()
	layer.Goods = append(layer.Goods, api.Amount{Unit: unit, N: n})
	return nil
}

func (r *runner) arrive() func() {
	require(r.thing != nil)
	thing := *r.thing
	r.thing = nil
	office, room := r.number(), r.number()
	return r.doing(func(d *Desk) api.Errno { return d.Arrive(office, room, thing) })
}

func (r *runner) work() func() {
	office, thing := r.number(), r.number()
	return r.printing(func(d *Desk) (string, api.Errno) {
		v, e := d.Work(office, thing)
		return words("verdict", int(v.Kind), v.Who.Person, v.Place, v.Look.Layer, v.Look.Piece), e
	})
}

func (r *runner) hand() func()   { return r.three((*Desk).Hand) }
func (r *runner) ship() func()   { return r.three((*Desk).Ship) }
func (r *runner) offer() func()  { return r.one((*Desk).Offer) }
func (r *runner) unpack() func() { return r.three((*Desk).Unpack) }
func (r *runner) burn() func()   { return r.two((*Desk).Burn) }
func (r *runner) carry() func()  { return r.three((*Desk).Carry) }
func (r *runner) lose() func()   { return r.three((*Desk).Lose) }
func (r *runner) repeat() func() { return r.three((*Desk).Repeat) }
func (r *runner) stop() func()   { return r.two((*Desk).Stop) }

func (r *runner) crash() func() {
	office := r.number()
	var keep []int
	for word, ok := r.next(" "); ok; word, ok = r.next(" ") {
		keep = append(keep, signed(word))
	}
	return r.doing(func(d *Desk) api.Errno { return d.Crash(office, keep) })
}

func (r *runner) claim() func() {
	office, person, thing, ask := r.number(), r.number(), r.number(), r.short()
	return r.printing(func(d *Desk) (string, api.Errno) {
		n, e := d.Claim(office, person, thing, ask)
		return words("claim", n), e
	})
}

func (r *runner) answer() func() {
	office, claim := r.number(), r.number()
	return r.onDesk(func(d *Desk) {
		b, e := d.Answer(office, claim)
		if e != api.OK {
			r.print(words("error", int(e)))
			return
		}
		text := court.Print(b)
		r.print(words("bundle", len(text)))
		r.WriteString(text)
	})
}

func (r *runner) refund() func() {
	office, thing, person := r.number(), r.number(), r.number()
	return r.printing(func(d *Desk) (string, api.Errno) {
		sums, e := d.Refund(office, thing, person)
		return listing("paid", sums, func(x api.Amount) string { return numbers(x.N) + " " + x.Unit }), e
	})
}
