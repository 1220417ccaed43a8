package court_test

import (
	"fmt"
	"math/rand"
	"slices"

	"restante/api"
	"restante/judge"
	"restante/reading"
	"restante/seals"
)

// item is a thing of a world, and where it is: in a room, in a bag, or gone.
type item struct {
	thing        api.Thing
	seal         api.Seal
	office, room int
	bag          api.Record // of the shipping, while it is in a bag
	gone         bool
}

// world is offices that do only what is right, and write it down.
type world struct {
	r     *rand.Rand
	j     [][]api.Record
	day   int
	items []*item
}

func (w *world) write(office int, x api.Record) {
	x.Office, x.Seq, x.Day, x.Salt = office, len(w.j[office]), w.day, w.r.Intn(1000)
	w.j[office] = append(w.j[office], x)
}

// firstLines are the books with which the offices begin.
func firstLines() []string {
	return []string{"place 0 found 1 0 north", "place 0 found 2 1 ayton", "place 0 found 3 1 ayford", "place 0 found 4 0 south", "spell 2 y/i",
		"people 0 name 1 0 0 ann lee", "people 0 live 1 2 0 0", "people 0 name 2 0 0 ann lee", "people 0 live 2 3 0 0", "people 0 name 3 0 0 bob lee", "people 0 live 3 2 0 0", "people 0 name 4 0 0 cat", "people 0 live 4 4 0 0"}
}

// someLine returns a line that may come in later, or be refused.
func someLine(r *rand.Rand, day int) string {
	n := func() int { return 1 + r.Intn(4) }
	return pick(r,
		fmt.Sprintf("people %d redirect %d %d 0 %d 0 %d 0", day, 1+r.Intn(50), n(), n(), day),
		fmt.Sprintf("people %d death %d %d", day, n(), day),
		fmt.Sprintf("people %d heir %d %d %d 0", day, n(), n(), day),
		fmt.Sprintf("people %d refuse %d 0 %d %d 0", day, n(), r.Intn(4), day),
		fmt.Sprintf("people %d name %d 0 0 bob lee", day, n()),
		fmt.Sprintf("people %d live %d %d 0 0", day, n(), n()),
		fmt.Sprintf("place %d merge %d %d", day, n(), n()),
		fmt.Sprintf("place %d rename %d new ton", day, n()),
		"spell 1 a/e")
}

// rules are sources, of which the last ones are kept for changes.
func rules() []string {
	return []string{
		"weights 0 20 60\nrule all rank 1: open any if always\n",
		"weights 0 20 60\nrule cover rank 1: open 1 if always\nrule late rank 2: open any if days >= 2\nrule claim rank 3: open any if claim\n",
		"weights 5 1 0\nrule cover rank 1: open any if addressees many or senders many\nrule shut rank 2: leave 3 if room 2 and not claim\n",
		"weights 0 0 0\nrule cover rank 1: open 1 if always\nrule two rank 3: open 2 if room 1 or room 3\nrule three rank 4: open 3 if days >= 1\n",
		"weights 1 2 3\n",
	}
}

func newWorld(seed int64) *world {
	r := rand.New(rand.NewSource(seed))
	w := &world{r: r, j: make([][]api.Record, 1+r.Intn(3))}
	for q := range w.j {
		w.write(q, api.Record{Kind: api.RecRules, Text: pick(r, rules()...)})
		for _, line := range firstLines() {
			w.publish(q, line)
		}
	}
	return w
}

// publish adds a line to the books of an office, if it is right.
func (w *world) publish(office int, line string) {
	x := api.Record{Kind: api.RecBook, Text: line}
	if _, e := plainBooks(append(slices.Clone(w.j[office]), x)); e == api.OK {
		w.write(office, x)
	}
}

// scene returns the case, the fact and the verdict of a room with a seal.
func (w *world) scene(office, room int, x api.Thing, seal api.Seal) (api.Fact, api.Verdict, api.Policy) {
	policy, _ := plainPolicy(w.j[office])
	books, _ := plainBooks(w.j[office])
	c := api.Case{Books: books, Thing: x, Opened: seals.Depth(seal, room), Day: w.day, Weights: policy.Weights}
	for _, l := range judge.Looks(x) {
		for _, shown := range seal.Rooms {
			if shown.Room == room && slices.Contains(shown.Looks, l) {
				c.Made = append(c.Made, l)
			}
		}
	}
	f := api.Fact{Room: room, Layer: 1, Days: w.day - x.Day}
	last := map[int]uint8{}
	for _, y := range w.j[office] {
		if y.Thing == x.Id && (y.Kind == api.RecClaim || y.Kind == api.RecAnswer) {
			last[y.N] = y.Kind
		}
	}
	for _, kind := range last {
		f.Claim = f.Claim || kind == api.RecClaim
	}
	f.To, _ = judge.Count(c, api.RoleTo)
	f.From, _ = judge.Count(c, api.RoleFrom)
	c.May, _ = seals.Allowed(x, seal, policy, f)
	v, _ := judge.Decide(c)
	return f, v, policy
}

func cellsOf(s string) []api.Cell {
	cells, e := reading.Parse(s)
	if e != api.OK {
		panic(s)
	}
	return cells
}

func (w *world) randomThing() api.Thing {
	r := w.r
	x := api.Thing{Id: len(w.items) + 1, Day: max(0, w.day-r.Intn(3))}
	texts := []string{"", "ann lee", "(a|b)(n|o)(n|b) lee", "bob lee", "cat", "ayton", "ay(t|f:1)o(n|rd:1)", "aiton", "north", "south", "(n|s)o(r|u)th"}
	for range 1 + r.Intn(3) {
		var layer api.Layer
		for range r.Intn(4) {
			kind := uint8(1 + r.Intn(6))
			text := pick(r, pick(r, texts...), pick(r, texts[[]int{1, 5, 8}[(kind-1)%3]:][:3]...))
			layer.Pieces = append(layer.Pieces, api.Piece{Kind: kind, Cells: cellsOf(text)})
		}
		x.Layers = append(x.Layers, layer)
	}
	return x
}

func (w *world) arrive() {
	x := w.randomThing()
	seal, e := seals.Begin(x)
	if e != api.OK {
		return
	}
	text := ""
	for _, layer := range x.Layers {
		for _, p := range layer.Pieces {
			text += fmt.Sprint(p.Kind)
		}
		text += "/"
	}
	y := &item{thing: x, seal: seal, office: w.r.Intn(len(w.j)), room: 1 + w.r.Intn(3)}
	w.items = append(w.items, y)
	w.write(y.office, api.Record{Kind: api.RecArrive, Room: y.room, Thing: x.Id, N: x.Day, Text: text})
}

// work does what the verdict of the room of a thing demands.
func (w *world) work(x *item) {
	f, v, policy := w.scene(x.office, x.room, x.thing, x.seal)
	put := func(y api.Record) {
		y.Room, y.Thing = x.room, x.thing.Id
		w.write(x.office, y)
	}
	if w.r.Intn(3) > 0 {
		put(api.Record{Kind: api.RecVerdict, Fact: f, Verdict: v.Kind, Person: v.Who.Person, Place: v.Place, Look: v.Look, N: v.Plan.Intrusion})
	}
	switch {
	case v.Kind == api.VerLook:
		f.Layer = v.Look.Layer
		opened := x.seal.Opened
		seal, piece, e := seals.Take(x.thing, x.seal, policy, f, v.Look)
		if e != api.OK {
			panic(e)
		}
		x.seal = seal
		put(api.Record{Kind: api.RecLook, Fact: f, Look: v.Look, Piece: piece})
		for n := opened + 1; n <= seal.Opened; n++ {
			put(api.Record{Kind: api.RecMoney, Verdict: api.WhyDeposit, N: n, Goods: randomGoods(w.r, 2, 5)})
		}
	case (v.Kind == api.VerDeliver || v.Kind == api.VerReturn) && v.Place != 0:
		kind := api.RecDeliver
		if v.Kind == api.VerReturn {
			kind = api.RecReturn
		}
		put(api.Record{Kind: kind, Person: v.Route.End.Person, Place: v.Place})
		x.gone = true
		if w.r.Intn(2) == 0 {
			put(api.Record{Kind: api.RecMoney, Verdict: api.WhyPay, Person: v.Route.End.Person, Goods: randomGoods(w.r, 3, 9)})
		}
	default:
		put(api.Record{Kind: api.RecKeep})
	}
}

// move brings a thing to another room or office, or into a room from a bag, or loses it.
func (w *world) move(x *item) {
	r := w.r
	if x.bag.Kind != 0 {
		w.receive(x)
		return
	}
	switch room := 1 + r.Intn(3); r.Intn(5) {
	case 0, 1:
		if room != x.room {
			f, _, policy := w.scene(x.office, room, x.thing, x.seal)
			x.seal, _, _ = seals.Hand(x.thing, x.seal, policy, f, x.room)
			w.write(x.office, api.Record{Kind: api.RecHand, Room: room, Thing: x.thing.Id, Fact: f, N: x.room})
			x.room = room
		}
	case 2, 3:
		if len(w.j) > 1 {
			x.bag = api.Record{Kind: api.RecShip, Room: x.room, Thing: x.thing.Id, Place: (x.office + 1 + r.Intn(len(w.j)-1)) % len(w.j), N: len(w.j[x.office])}
			w.write(x.office, x.bag)
		}
	case 4:
		if r.Intn(4) == 0 {
			w.write(x.office, api.Record{Kind: api.RecLoss, Room: x.room, Thing: x.thing.Id})
			x.gone = true
		}
	}
}

func (w *world) receive(x *item) {
	room, to := 1+w.r.Intn(3), x.bag.Place
	closed, _ := seals.Begin(x.thing)
	f, _, policy := w.scene(to, room, x.thing, closed)
	f.Room = room
	x.seal, _, _ = seals.Pass(x.thing, x.seal, policy, f, x.room)
	w.write(to, api.Record{Kind: api.RecReceive, Room: room, Thing: x.thing.Id, Fact: f, Place: x.office, N: x.bag.N, Person: x.room})
	x.office, x.room, x.bag = to, room, api.Record{}
}

// claim makes a claim about a thing, or answers the oldest one.
func (w *world) claim(thing int) {
	q, number := w.r.Intn(len(w.j)), 1
	for i, x := range w.j[q] {
		if x.Kind != api.RecClaim {
			continue
		}
		number++
		if w.r.Intn(2) == 0 && isOpen(w.j[q][:i+1], x) && isOpen(w.j[q], x) {
			w.write(q, api.Record{Kind: api.RecAnswer, Thing: x.Thing, N: x.N, Verdict: uint8(1 + w.r.Intn(3))})
			return
		}
	}
	w.write(q, api.Record{Kind: api.RecClaim, Thing: thing, Person: 1 + w.r.Intn(4), N: number, Verdict: uint8(1 + w.r.Intn(3))})
}

// step does one thing.
func (w *world) step() {
	r := w.r
	if len(w.items) == 0 || r.Intn(12) == 0 && len(w.items) < 4 {
		w.arrive()
		return
	}
	x := pick(r, w.items...)
	switch n := r.Intn(16); {
	case n == 0:
		w.day += 1 + r.Intn(2)
	case n == 1:
		w.publish(r.Intn(len(w.j)), someLine(r, w.day))
	case n == 2:
		w.write(r.Intn(len(w.j)), api.Record{Kind: api.RecRules, Text: pick(r, rules()...)})
	case n < 5:
		w.claim(x.thing.Id)
	case x.gone:
		w.write(x.office, api.Record{Kind: api.RecMoney, Room: 1, Thing: x.thing.Id, Verdict: api.WhyRefund, Person: 1 + r.Intn(4)})
	case n < 8 || x.bag.Kind != 0:
		w.move(x)
	default:
		w.work(x)
	}
}

// someWorld returns the journals of a world.
func someWorld(seed int64, steps int) *world {
	w := newWorld(seed)
	for range steps {
		w.step()
	}
	return w
}
