package custody_test

import (
	"fmt"
	"maps"
	"slices"
	"testing"

	"restante/api"
)

// house is what an office and its oracle have in common.
type house interface {
	Enter(t api.Token, note string) api.Errno
	Change(t api.Token, note string) api.Errno
	Note(note string) api.Errno
	Ship(to int, ids []int, note string) (int, api.Errno)
	Hear(m, note string) (string, api.Errno)
	Burn(ids []int, note string) api.Errno
	Leave(ids []int, note string) api.Errno
	Offer() []api.Letter
	Held() []api.Token
	Bags() []api.Bag
	Lost() []int
	Heard(from int) int
	Notes() []string
}

// textOfHouse is what an office answers to all questions.
func textOfHouse(h house) string {
	text := "held" + textOfTokens(h.Held())
	for _, b := range h.Bags() {
		text += fmt.Sprintf("; bag %d %d %d", b.From, b.To, b.Seq) + textOfTokens(b.Tokens)
	}
	text += fmt.Sprintf("; lost %v; notes %q; heard", h.Lost(), h.Notes())
	for from := -1; from <= 8; from++ {
		text += fmt.Sprint(" ", h.Heard(from))
	}
	for _, letter := range h.Offer() {
		text += fmt.Sprintf("; offer %d %q", letter.To, letter.Text)
	}
	return text
}

func textOfTokens(tokens []api.Token) string {
	text := ""
	for _, t := range tokens {
		text += fmt.Sprintf(" %d %q", t.Id, t.Body)
	}
	return text
}

// plainOffice is an office as the chapter describes it; its disk never fails.
type plainOffice struct {
	id       int
	held     map[int]string
	lost     map[int]bool
	shipped  []api.Bag // all of them, in order
	got      []string  // the acknowledgements of bags that were shipped
	received []int     // from which offices
	notes    []string
}

func newPlainOffice(id int) *plainOffice {
	return &plainOffice{id: id, held: map[int]string{}, lost: map[int]bool{}}
}

func (o *plainOffice) ackOf(b api.Bag) string {
	return fmt.Sprintf("got %d %d %d\n", b.To, b.From, b.Seq)
}

func (o *plainOffice) Bags() []api.Bag {
	var list []api.Bag
	for to := range 8 {
		for _, b := range o.shipped {
			if b.To == to && !slices.Contains(o.got, o.ackOf(b)) {
				list = append(list, b)
			}
		}
	}
	return list
}

func (o *plainOffice) Offer() []api.Letter {
	var list []api.Letter
	for _, b := range o.Bags() {
		list = append(list, api.Letter{To: b.To, Text: plainBag(b)})
	}
	return list
}

func (o *plainOffice) Held() []api.Token {
	var list []api.Token
	for _, id := range slices.Sorted(maps.Keys(o.held)) {
		list = append(list, token(id, o.held[id]))
	}
	return list
}

func (o *plainOffice) Lost() []int     { return slices.Sorted(maps.Keys(o.lost)) }
func (o *plainOffice) Notes() []string { return o.notes }

func (o *plainOffice) Heard(from int) int {
	n := 0
	for _, x := range o.received {
		if x == from {
			n++
		}
	}
	return n
}

// first returns the first error whose condition holds.
func first(conditions ...any) api.Errno {
	for i := 0; i < len(conditions); i += 2 {
		if conditions[i].(bool) {
			return conditions[i+1].(api.Errno)
		}
	}
	return api.OK
}

func (o *plainOffice) leave(note string) {
	if note != "" {
		o.notes = append(o.notes, note)
	}
}

func isPlainToken(t api.Token) bool { return t.Id >= 1 && t.Id <= 1000000 && len(t.Body) <= 6000 }

func (o *plainOffice) Enter(t api.Token, note string) api.Errno {
	_, twice := o.held[t.Id]
	for _, b := range o.Bags() {
		for _, x := range b.Tokens {
			twice = twice || x.Id == t.Id
		}
	}
	e := first(!isPlainToken(t), api.ErrArg, twice || o.lost[t.Id], api.ErrTwice, len(note) > 8000, api.ErrLimit)
	if e == api.OK {
		o.held[t.Id] = t.Body
		o.leave(note)
	}
	return e
}

func (o *plainOffice) Change(t api.Token, note string) api.Errno {
	_, ok := o.held[t.Id]
	e := first(!isPlainToken(t), api.ErrArg, !ok, api.ErrNone, len(note) > 8000, api.ErrLimit)
	if e == api.OK {
		o.held[t.Id] = t.Body
		o.leave(note)
	}
	return e
}

func (o *plainOffice) Note(note string) api.Errno {
	e := first(len(note) > 8000, api.ErrLimit, note == "", api.ErrArg)
	if e == api.OK {
		o.leave(note)
	}
	return e
}

// take takes held tokens out, unless there is an error.
func (o *plainOffice) take(ids []int, note string) ([]api.Token, api.Errno) {
	sorted := slices.Sorted(slices.Values(ids))
	strange := slices.ContainsFunc(ids, func(id int) bool { _, ok := o.held[id]; return !ok })
	e := first(len(ids) == 0 || len(ids) > 8 || len(note) > 8000, api.ErrLimit, len(slices.Compact(slices.Clone(sorted))) < len(ids), api.ErrTwice, strange, api.ErrNone)
	if e != api.OK {
		return nil, e
	}
	var tokens []api.Token
	for _, id := range sorted {
		tokens = append(tokens, token(id, o.held[id]))
		delete(o.held, id)
	}
	o.leave(note)
	return tokens, api.OK
}

func (o *plainOffice) Ship(to int, ids []int, note string) (int, api.Errno) {
	if to < 0 || to > 7 || to == o.id {
		return 0, api.ErrArg
	}
	tokens, e := o.take(ids, note)
	if e != api.OK {
		return 0, e
	}
	seq := 1
	for _, b := range o.shipped {
		if b.To == to {
			seq++
		}
	}
	o.shipped = append(o.shipped, bag(o.id, to, seq, tokens...))
	return seq, api.OK
}

func (o *plainOffice) Burn(ids []int, note string) api.Errno {
	_, e := o.take(ids, note)
	if e == api.OK {
		for _, id := range ids {
			o.lost[id] = true
		}
	}
	return e
}

func (o *plainOffice) Leave(ids []int, note string) api.Errno {
	_, e := o.take(ids, note)
	return e
}

func (o *plainOffice) Hear(m, note string) (string, api.Errno) {
	word, b, ok := readPlain(m)
	if e := first(len(note) > 8000, api.ErrLimit, !ok, api.ErrForm, b.To != o.id, api.ErrArg); e != api.OK {
		return "", e
	}
	if word == "got" {
		if slices.ContainsFunc(o.Bags(), func(x api.Bag) bool { return o.ackOf(x) == m }) {
			o.got = append(o.got, m)
			o.leave(note)
		}
		return "", api.OK
	}
	if b.Seq > o.Heard(b.From)+1 {
		return "", api.OK
	}
	if b.Seq == o.Heard(b.From)+1 {
		o.received = append(o.received, b.From)
		for _, t := range b.Tokens {
			o.held[t.Id] = t.Body
		}
		o.leave(note)
	}
	return o.ackOf(b), api.OK
}

// call is an operation with its arguments, for any house: what it returns as text, and its error; and its cost, if it is done.
type call struct {
	what string
	run  func(h house) (string, api.Errno)
	cost int
}

func newCall(bytes int, what string, run func(h house) (string, api.Errno)) call {
	return call{what, run, costOf(60 + bytes)}
}

func enter(id int, body, note string) call {
	return newCall(30+len(body)+len(note), fmt.Sprintf("Enter(%d, %.40q, %.40q)", id, body, note), func(h house) (string, api.Errno) { return "", h.Enter(token(id, body), note) })
}

func change(id int, body, note string) call {
	return newCall(30+len(body)+len(note), fmt.Sprintf("Change(%d, %.40q, %.40q)", id, body, note), func(h house) (string, api.Errno) { return "", h.Change(token(id, body), note) })
}

func leaveNote(note string) call {
	return newCall(len(note), fmt.Sprintf("Note(%.40q)", note), func(h house) (string, api.Errno) { return "", h.Note(note) })
}

func ship(to int, note string, ids ...int) call {
	return newCall(30*len(ids)+len(note), fmt.Sprintf("Ship(%d, %v, %.40q)", to, ids, note), func(h house) (string, api.Errno) {
		seq, e := h.Ship(to, ids, note)
		if e != api.OK && seq == 0 {
			return "", e
		}
		return fmt.Sprint(seq), e
	})
}

func burn(note string, ids ...int) call {
	return newCall(30*len(ids)+len(note), fmt.Sprintf("Burn(%v, %.40q)", ids, note), func(h house) (string, api.Errno) { return "", h.Burn(ids, note) })
}

func handOut(note string, ids ...int) call {
	return newCall(30*len(ids)+len(note), fmt.Sprintf("Leave(%v, %.40q)", ids, note), func(h house) (string, api.Errno) { return "", h.Leave(ids, note) })
}

func hear(m, note string) call {
	bytes := len(note)
	if _, b, ok := readPlain(m); ok {
		for _, t := range b.Tokens {
			bytes += 30 + len(t.Body)
		}
	}
	return newCall(bytes, fmt.Sprintf("Hear(%.100q, %.40q)", m, note), func(h house) (string, api.Errno) { return h.Hear(m, note) })
}

// both runs a call on an office and on its oracle, compares them, and returns the error.
func both(t *testing.T, h, o house, c call) api.Errno {
	t.Helper()
	text, e := c.run(h)
	wanted, f := c.run(o)
	same(t, "the error of "+c.what, e, f)
	same(t, "the result of "+c.what, text, wanted)
	return e
}

// done runs calls that must succeed.
func done(t *testing.T, h house, calls ...call) {
	t.Helper()
	for _, c := range calls {
		_, e := c.run(h)
		same(t, c.what, e, api.OK)
	}
}

// refused runs calls that must fail, and checks that nothing else is returned, and that nothing has changed.
func refused(t *testing.T, h house, want api.Errno, calls ...call) {
	t.Helper()
	before := textOfHouse(h)
	for _, c := range calls {
		text, e := c.run(h)
		same(t, c.what, e, want)
		same(t, "the result of "+c.what, text, "")
		same(t, "the office behind "+c.what, textOfHouse(h), before)
	}
}
