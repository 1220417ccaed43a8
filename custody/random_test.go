package custody_test

import (
	"fmt"
	"math"
	"math/rand"
	"slices"
	"strings"
	"testing"

	"restante/api"
	"restante/custody"
)

// chance chooses operations for an office that is as its oracle is.
type chance struct{ r *rand.Rand }

func (c chance) note() string {
	return pick(c.r, "", "", "", "note", "a\nb", noise(c.r.Int63(), c.r.Intn(100)))
}

func (c chance) id() int {
	if c.r.Intn(40) == 0 {
		return pick(c.r, 0, -1, 1000000, 1000001, math.MinInt, math.MaxInt)
	}
	return 1 + c.r.Intn(12)
}

func (c chance) body() string {
	return pick(c.r, "", "a", "7 2\nab\n", noise(c.r.Int63(), c.r.Intn(80)))
}

// ids returns some Ids, mostly of tokens that are held.
func (c chance) ids(o *plainOffice) []int {
	var ids []int
	for _, x := range o.Held() {
		if c.r.Intn(3) == 0 {
			ids = append(ids, x.Id)
		}
	}
	c.r.Shuffle(len(ids), func(i, j int) { ids[i], ids[j] = ids[j], ids[i] })
	if c.r.Intn(12) == 0 {
		ids = append(ids, c.id())
	}
	return ids
}

// message returns a message, mostly one for the office.
func (c chance) message(o *plainOffice) string {
	other := pick(c.r, 0, 1, 2, 7)
	to := pick(c.r, o.id, o.id, o.id, o.id, o.id, o.id, 2)
	switch c.r.Intn(8) {
	case 0, 1:
		return fmt.Sprintf("got %d %d %d\n", other, to, 1+c.r.Intn(5))
	case 2, 3:
		if bags := o.Bags(); len(bags) > 0 {
			return o.ackOf(pick(c.r, bags...))
		}
	case 4:
		return mutant(c.r, texts())
	}
	b := bag(other, to, o.Heard(other)+pick(c.r, 0, 1, 1, 1, 1, 2))
	for id := c.r.Intn(4); id < 13; id += 1 + c.r.Intn(6) {
		b.Tokens = append(b.Tokens, token(id, c.body()))
	}
	return plainBag(b)
}

func (c chance) operation(o *plainOffice) call {
	switch c.r.Intn(12) {
	case 0, 1, 2:
		return enter(c.id(), c.body(), c.note())
	case 3:
		return change(c.id(), c.body(), c.note())
	case 4:
		return leaveNote(c.note())
	case 5, 6:
		return ship(pick(c.r, 0, 1, 2, 7, 7, 8, -1), c.note(), c.ids(o)...)
	case 7:
		return burn(c.note(), c.ids(o)...)
	case 8:
		return handOut(c.note(), c.ids(o)...)
	}
	return hear(c.message(o), c.note())
}

// P7.1: offices do what their oracle does, also when they are started anew.
func TestOfficesLikeTheirOracle(t *testing.T) {
	met := map[string]int{}
	for seed := range int64(400) {
		r := rand.New(rand.NewSource(seed))
		id := pick(r, 0, 1, 3, 7)
		d := newDisk(t, 2000)
		o, p := start(t, d, id), newPlainOffice(id)
		for range 60 {
			c := chance{r}.operation(p)
			name, _, _ := strings.Cut(c.what, "(")
			met[fmt.Sprint(name, " ", both(t, o, p, c))]++
			same(t, "the office behind "+c.what, textOfHouse(o), textOfHouse(p))
			switch r.Intn(12) {
			case 0:
				o = start(t, d, id)
			case 1:
				d.Crash(randomKeep(r, 8))
				o = start(t, d, id)
			}
			same(t, "the office that is started anew", textOfHouse(o), textOfHouse(p))
		}
	}
	for _, name := range []string{"Enter 0", "Enter 1", "Enter 6", "Change 0", "Change 5", "Note 0", "Note 1", "Ship 0", "Ship 1", "Ship 2", "Ship 5", "Hear 0", "Hear 1", "Hear 4", "Burn 0", "Burn 2", "Burn 5", "Leave 0", "Leave 2", "Leave 5"} {
		if met[name] < 20 {
			t.Errorf("only %d of %s", met[name], name)
		}
	}
}

// P7.5, P7.6: what is no message changes nothing, and what is heard twice is heard once.
func TestHearingAgain(t *testing.T) {
	for seed := range int64(300) {
		r := rand.New(rand.NewSource(seed))
		d := newDisk(t, 2000)
		o, p := start(t, d, 0), newPlainOffice(0)
		for range 40 {
			c := chance{r}.operation(p)
			both(t, o, p, c)
			m := chance{r}.message(p)
			before := textOfHouse(o)
			answer, e := o.Hear(m, "once")
			p.Hear(m, "once")
			once := textOfHouse(o)
			if _, _, ok := readPlain(m); !ok {
				same(t, "Hear", fmt.Sprint(answer, e), "4")
				same(t, "the office", once, before)
			}
			_, records := open(t, d)
			o = start(t, d, 0)
			again, f := o.Hear(m, "again")
			same(t, "Hear again", fmt.Sprint(again, f), fmt.Sprint(answer, e))
			same(t, "the office", textOfHouse(o), once)
			_, behind := open(t, d)
			equal(t, "the records", behind, records)
			o = start(t, d, 0)
		}
	}
}

// fixed are operations of all kinds for the office 2.
func fixed() []call {
	return []call{
		enter(1, "one", "first"), enter(2, noise(1, 70), ""), enter(3, "", noise(2, 150)), change(2, noise(3, 200), "changed"), ship(1, "", 3, 1), enter(4, "four", ""),
		hear("bag 1 2 1\n5 2\nab\n6 0\n\n", "heard"), hear("bag 1 2 1\n5 2\nab\n6 0\n\n", "no effect"), ship(0, "x", 2), hear("got 1 2 1\n", "acknowledged"), leaveNote("note"), burn("y", 4), handOut("", 5),
		hear("bag 1 2 2\n3 "+fmt.Sprintf("%d\n%s\n", 400, noise(4, 400)), noise(5, 100)), hear("got 0 2 1\n", ""), ship(1, "z", 3, 6),
	}
}

// until does operations from the first one on until one returns ErrDown, on an office and on its oracle, compares the two, and returns how many were done.
func until(t *testing.T, o house, p *plainOffice, calls []call) int {
	t.Helper()
	for i, c := range calls {
		text, e := c.run(o)
		if e == api.ErrDown {
			same(t, c.what, text, "")
			same(t, "the office behind "+c.what, textOfHouse(o), textOfHouse(p))
			return i
		}
		wanted, f := c.run(p)
		same(t, c.what, text+fmt.Sprint(e), wanted+fmt.Sprint(f))
	}
	same(t, "the office in the end", textOfHouse(o), textOfHouse(p))
	return len(calls)
}

// When the power fails at any call, and whatever is left, an office has all operations that returned OK, and perhaps the one that failed; and it can go on.
func TestOfficesCrashAtEveryCall(t *testing.T) {
	calls := fixed()
	for stop := range 1000 {
		count := 0
		for i, keep := range keeps(10) {
			// All of them, but not for each call.
			if i > 15 && (i+stop)%3 != 0 {
				continue
			}
			d := newDisk(t, 400)
			o, p := start(t, d, 2), newPlainOffice(2)
			d.Stop(stop)
			if count = until(t, o, p, calls); count == len(calls) {
				break
			}
			// What is tried while the disk is down is never there.
			refused(t, o, api.ErrDown, enter(99, "", ""), leaveNote("late"), hear("bag 7 2 1\n98 0\n\n", ""))
			d.Crash(keep)
			o = start(t, d, 2)
			if text := textOfHouse(o); text != textOfHouse(p) {
				calls[count].run(p)
				count++
				same(t, "the office with the operation that failed", text, textOfHouse(p))
			}
			until(t, o, p, calls[count:])
			d.Crash(nil)
			same(t, "the office in the end", textOfHouse(start(t, d, 2)), textOfHouse(p))
		}
		if count == len(calls) {
			return
		}
	}
	t.Error("the power never failed")
}

// Offices whose disks stop and crash at random calls, again and again.
func TestOfficesThatCrashOften(t *testing.T) {
	crashes := 0
	for seed := range int64(400) {
		r := rand.New(rand.NewSource(seed))
		d := newDisk(t, 3000)
		o, p := start(t, d, 0), newPlainOffice(0)
		for range 60 {
			if r.Intn(5) == 0 {
				d.Stop(r.Intn(8))
			}
			c := chance{r}.operation(p)
			if until(t, o, p, []call{c}) == 1 {
				continue
			}
			crashes++
			d.Crash(randomKeep(r, 10))
			o = startAgain(t, r, d)
			if text := textOfHouse(o); text != textOfHouse(p) {
				c.run(p)
				same(t, "the office with the operation that failed", text, textOfHouse(p))
			}
		}
	}
	if crashes < 300 {
		t.Errorf("only %d crashes", crashes)
	}
}

// startAgain starts the office 0, perhaps with power failures meanwhile.
func startAgain(t *testing.T, r *rand.Rand, d *custody.Disk) *custody.Office {
	t.Helper()
	for _, calls := range slices.Repeat([]int{r.Intn(4)}, r.Intn(3)) {
		d.Stop(calls)
		if o, e := custody.Start(d, 0); e != api.OK {
			same(t, "Start", fmt.Sprint(o == nil, e), "true 70")
		}
		d.Crash(randomKeep(r, 4))
	}
	return start(t, d, 0)
}
