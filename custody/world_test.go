package custody_test

import (
	"fmt"
	"math/rand"
	"strings"
	"testing"

	"restante/api"
	"restante/custody"
)

// world is offices with their disks and a network, what each office must have, and what became of the tokens.
type world struct {
	t       *testing.T
	r       *rand.Rand
	disks   []*custody.Disk
	offices []*custody.Office
	plain   []*plainOffice
	doubts  [][]deed // what returned ErrDown first, since the office was started
	net     *custody.Net
	bodies  map[int]string // the last Bodies of tokens that entered
	out     map[int]bool   // tokens that were handed out
	next    int            // the next Id
	met     map[string]int
}

// deed is an operation, and what it means to tokens.
type deed struct {
	call  call
	after func()
}

func newWorld(t *testing.T, seed int64) *world {
	t.Helper()
	r := rand.New(rand.NewSource(seed))
	n := pick(r, 2, 2, 3, 5, 8)
	w := &world{t: t, r: r, net: newNet(t, n), bodies: map[int]string{}, out: map[int]bool{}, next: 1, met: map[string]int{}}
	for id := range n {
		w.disks = append(w.disks, newDisk(t, 4000))
		w.offices = append(w.offices, start(t, w.disks[id], id))
		w.plain = append(w.plain, newPlainOffice(id))
	}
	w.doubts = make([][]deed, n)
	return w
}

// do does an operation in an office, and returns the answer to it.
func (w *world) do(office int, x deed) (string, bool) {
	w.t.Helper()
	text, e := x.call.run(w.offices[office])
	if e == api.ErrDown {
		w.met["down"]++
		same(w.t, x.call.what, w.disks[office].Down(), true)
		if len(w.doubts[office]) == 0 {
			w.doubts[office] = []deed{x}
		}
		return "", false
	}
	wanted, f := x.call.run(w.plain[office])
	same(w.t, x.call.what, text+fmt.Sprint(e), wanted+fmt.Sprint(f))
	if e == api.OK {
		x.after()
	}
	return text, e == api.OK
}

// crash crashes the disk of an office, which then has all that it had, and perhaps the operation that failed first.
func (w *world) crash(office int) {
	w.t.Helper()
	w.disks[office].Crash(randomKeep(w.r, 10))
	o := start(w.t, w.disks[office], office)
	w.offices[office] = o
	for _, x := range w.doubts[office] {
		if textOfHouse(o) != textOfHouse(w.plain[office]) {
			x.call.run(w.plain[office])
			x.after()
		}
	}
	w.doubts[office] = nil
	same(w.t, "the office that is started", textOfHouse(o), textOfHouse(w.plain[office]))
}

// operate does an operation that is none of hearing.
func (w *world) operate(office int) {
	c := chance{w.r}
	body, note, ids := c.body(), c.note(), c.ids(w.plain[office])
	switch w.r.Intn(9) {
	case 0, 1, 2:
		id := w.next
		w.next++
		w.do(office, deed{enter(id, body, note), func() { w.bodies[id] = body }})
	case 3:
		if held := w.plain[office].Held(); len(held) > 0 {
			id := pick(w.r, held...).Id
			w.do(office, deed{change(id, body, note), func() { w.bodies[id] = body }})
		}
	case 4:
		w.do(office, deed{burn(note, ids[:min(1, len(ids))]...), func() {}})
	case 5:
		w.do(office, deed{handOut(note, ids...), func() {
			for _, id := range ids {
				w.out[id] = true
			}
		}})
	default:
		w.do(office, deed{ship(w.r.Intn(len(w.offices)), note, ids...), func() { w.met["shipped"]++ }})
	}
}

// offer sends all that an office offers; what has no room on its line is lost.
func (w *world) offer(office int) {
	for _, letter := range w.offices[office].Offer() {
		w.net.Send(office, letter.To, letter.Text)
	}
}

// deliver delivers a message that waits on a line, perhaps twice, and sends the answers.
func (w *world) deliver(from, to int) {
	m, e := w.net.Take(from, to, w.r.Intn(max(1, w.net.Waiting(from, to))))
	if e != api.OK {
		return
	}
	had := w.plain[to].Heard(from)
	answer, ok := w.do(to, deed{hear(m, "heard"), func() {}})
	switch {
	case strings.HasPrefix(m, "got"):
		w.met["acknowledged"]++
	case ok && answer == "":
		w.met["too early"]++
	case w.plain[to].Heard(from) == had:
		w.met["again"]++
	default:
		w.met["received"]++
	}
	if ok && w.r.Intn(4) == 0 {
		before := textOfHouse(w.offices[to])
		again, _ := w.do(to, deed{hear(m, "again"), func() {}})
		same(w.t, "the answer again", again, answer)
		same(w.t, "the office", textOfHouse(w.offices[to]), before)
	}
	if answer != "" {
		w.net.Send(to, from, answer)
	}
}

func (w *world) step() {
	n := len(w.offices)
	office, other := w.r.Intn(n), w.r.Intn(n)
	switch w.r.Intn(20) {
	case 0:
		w.disks[office].Stop(w.r.Intn(10))
	case 1:
		w.crash(office)
	case 2, 3:
		w.net.Lose(office, other, w.r.Intn(3))
	case 4, 5:
		w.net.Repeat(office, other, w.r.Intn(3))
	case 6, 7:
		w.offer(office)
	case 8, 9, 10, 11:
		w.operate(office)
	default:
		w.deliver(office, other)
	}
}

// check checks that each token is in one place, with its last Body.
func (w *world) check() {
	w.t.Helper()
	places := map[int][]string{}
	has := func(t api.Token, place string) {
		places[t.Id] = append(places[t.Id], place)
		same(w.t, fmt.Sprint("the Body of ", t.Id), t.Body, w.bodies[t.Id])
	}
	for id, o := range w.offices {
		for _, x := range o.Held() {
			has(x, fmt.Sprint("in the office ", id))
		}
		for _, b := range o.Bags() {
			if b.Seq > w.offices[b.To].Heard(id) {
				for _, x := range b.Tokens {
					has(x, fmt.Sprint("in the bag ", b.From, b.To, b.Seq))
				}
			}
		}
		for _, x := range o.Lost() {
			places[x] = append(places[x], "lost")
		}
	}
	for id := range w.out {
		places[id] = append(places[id], "handed out")
	}
	for id := range w.bodies {
		if len(places[id]) != 1 {
			w.t.Fatalf("the token %d is %q", id, places[id])
		}
	}
	same(w.t, "how many tokens there are", len(places), len(w.bodies))
}

// finish delivers all that is offered, in order, and checks that all bags are received and acknowledged.
func (w *world) finish() {
	w.t.Helper()
	for id := range w.offices {
		w.crash(id)
	}
	for from, o := range w.offices {
		for _, letter := range o.Offer() {
			answer, ok := w.do(letter.To, deed{hear(letter.Text, ""), func() {}})
			same(w.t, "an answer", ok && answer != "", true)
			w.do(from, deed{hear(answer, ""), func() {}})
		}
	}
	for from, o := range w.offices {
		same(w.t, "the bags", len(o.Bags()), 0)
		shipped := map[int]int{}
		for _, b := range w.plain[from].shipped {
			shipped[b.To]++
		}
		for to, n := range shipped {
			same(w.t, "how many were received", w.offices[to].Heard(from), n)
		}
	}
	w.check()
}

// P7.3, P7.4, P7.6: each thing is in one place, whatever networks and disks do; and if at last nothing fails any more, all bags arrive.
func TestCustody(t *testing.T) {
	met := map[string]int{}
	for seed := range int64(250) {
		w := newWorld(t, seed)
		for i := range 400 {
			w.step()
			if i%3 == 0 {
				w.check()
			}
		}
		w.finish()
		for what, n := range w.met {
			met[what] += n
		}
	}
	for _, what := range []string{"down", "shipped", "received", "acknowledged", "again", "too early"} {
		if met[what] < 50 {
			t.Errorf("%s: only %d times", what, met[what])
		}
	}
}
