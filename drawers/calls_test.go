package drawers_test

import (
	"fmt"
	"slices"
	"testing"

	"restante/api"
	"restante/drawers"
)

// books is what a ledger and its oracle have in common.
type books interface {
	Day() int
	SetUnit(day int, unit string, kind uint8) api.Errno
	SetValue(day int, unit string, grains int) api.Errno
	Value(unit string, day int) int
	SetTerm(day int, unit string, least, days int) api.Errno
	Term(unit string, n, day int) int
	Advance(day int) (int, api.Errno)
	Deposit(day, thing, layer int, goods []api.Amount) ([]int, api.Errno)
	Pay(day, thing, person int) ([]api.Amount, api.Errno)
	Take(day, thing int, unit string, n, person int) api.Errno
	Convert(day, lot int, to string, n int) (int, int, api.Errno)
	Refund(day, thing, person int) ([]api.Amount, api.Errno)
	Lose(day, thing int) ([]api.Amount, api.Errno)
	Recover(day, thing int) ([]api.Amount, api.Errno)
	Dispatch(day, thing, bag int) ([]api.Lot, api.Errno)
	Arrived(day, bag int) (int, api.Errno)
	Receive(day int, lots []api.Lot) ([]int, api.Errno)
	Lots(thing int) []api.Lot
	Due(until int) []api.Lot
	Balance(a api.Account, unit string, day int) int
	Balances(a api.Account, day int) []api.Amount
	Worth(a api.Account, day int) int
	Postings() []api.Posting
	Statement(a api.Account, unit string, from, until int) []api.StatementLine
	Trial(day int) []api.TrialLine
}

// call is an operation with its arguments, for any books; what it returns as text, and its error.
type call struct {
	what string
	run  func(b books) (string, api.Errno)
}

func setUnit(day int, unit string, kind uint8) call {
	return call{fmt.Sprintf("SetUnit(%d, %q, %d)", day, unit, kind), func(b books) (string, api.Errno) { return "", b.SetUnit(day, unit, kind) }}
}

func setValue(day int, unit string, grains int) call {
	return call{fmt.Sprintf("SetValue(%d, %q, %d)", day, unit, grains), func(b books) (string, api.Errno) { return "", b.SetValue(day, unit, grains) }}
}

func setTerm(day int, unit string, least, days int) call {
	return call{fmt.Sprintf("SetTerm(%d, %q, %d, %d)", day, unit, least, days), func(b books) (string, api.Errno) { return "", b.SetTerm(day, unit, least, days) }}
}

func advance(day int) call {
	return call{fmt.Sprintf("Advance(%d)", day), func(b books) (string, api.Errno) { return textOf(b.Advance(day)) }}
}

func deposit(day, thing, layer int, goods ...api.Amount) call {
	return call{fmt.Sprintf("Deposit(%d, %d, %d, %v)", day, thing, layer, goods), func(b books) (string, api.Errno) { return textOf(b.Deposit(day, thing, layer, goods)) }}
}

func pay(day, thing, person int) call {
	return call{fmt.Sprintf("Pay(%d, %d, %d)", day, thing, person), func(b books) (string, api.Errno) { return textOf(b.Pay(day, thing, person)) }}
}

func take(day, thing int, unit string, n, person int) call {
	return call{fmt.Sprintf("Take(%d, %d, %q, %d, %d)", day, thing, unit, n, person), func(b books) (string, api.Errno) { return "", b.Take(day, thing, unit, n, person) }}
}

func convert(day, lot int, to string, n int) call {
	return call{fmt.Sprintf("Convert(%d, %d, %q, %d)", day, lot, to, n), func(b books) (string, api.Errno) {
		m, k, e := b.Convert(day, lot, to, n)
		return fmt.Sprint(m, k), e
	}}
}

func refund(day, thing, person int) call {
	return call{fmt.Sprintf("Refund(%d, %d, %d)", day, thing, person), func(b books) (string, api.Errno) { return textOf(b.Refund(day, thing, person)) }}
}

func lose(day, thing int) call {
	return call{fmt.Sprintf("Lose(%d, %d)", day, thing), func(b books) (string, api.Errno) { return textOf(b.Lose(day, thing)) }}
}

func takeBack(day, thing int) call {
	return call{fmt.Sprintf("Recover(%d, %d)", day, thing), func(b books) (string, api.Errno) { return textOf(b.Recover(day, thing)) }}
}

func dispatch(day, thing, bag int) call {
	return call{fmt.Sprintf("Dispatch(%d, %d, %d)", day, thing, bag), func(b books) (string, api.Errno) { return textOf(b.Dispatch(day, thing, bag)) }}
}

func arrived(day, bag int) call {
	return call{fmt.Sprintf("Arrived(%d, %d)", day, bag), func(b books) (string, api.Errno) { return textOf(b.Arrived(day, bag)) }}
}

func receive(day int, lots ...api.Lot) call {
	return call{fmt.Sprintf("Receive(%d, %v)", day, lots), func(b books) (string, api.Errno) { return textOf(b.Receive(day, lots)) }}
}

func textOf[T any](result T, e api.Errno) (string, api.Errno) { return fmt.Sprint(result), e }

func amount(unit string, n int) api.Amount { return api.Amount{Unit: unit, N: n} }

// coming is a lot from another office.
func coming(thing, layer, due int, unit string, left int) api.Lot {
	return api.Lot{Thing: thing, Layer: layer, Due: due, Unit: unit, Left: left}
}

// done runs calls that must succeed.
func done(t *testing.T, b books, calls ...call) {
	t.Helper()
	for _, c := range calls {
		_, e := c.run(b)
		same(t, c.what, e, api.OK)
	}
}

// refused runs calls that must fail, and checks that nothing else is returned, and that nothing has changed.
func refused(t *testing.T, b books, want api.Errno, calls ...call) {
	t.Helper()
	before := said(b)
	for _, c := range calls {
		text, e := c.run(b)
		same(t, c.what, e, want)
		if !isZero(text) {
			t.Fatalf("%s returns %s with an error", c.what, text)
		}
		same(t, "all behind "+c.what, said(b), before)
	}
}

func isZero(text string) bool { return slices.Contains([]string{"", "0", "0 0", "[]"}, text) }

// gives runs a call that must succeed, and compares what it returns.
func gives(t *testing.T, b books, c call, want string) {
	t.Helper()
	text, e := c.run(b)
	same(t, c.what, e, api.OK)
	same(t, c.what, text, want)
}

// both runs a call on a ledger and on its oracle, compares them, and returns the error.
func both(t *testing.T, l *drawers.Ledger, o *oracle, c call) api.Errno {
	t.Helper()
	text, e := c.run(l)
	wanted, f := c.run(o)
	same(t, "the error of "+c.what, e, f)
	same(t, "the result of "+c.what, text, wanted)
	return e
}

var someUnits = []string{"aa", "bb", "cc", "dd", "crown", "mark", "penny", "ring", "", "gold"}

// accountsOf returns the accounts of some ids, and some that are not valid.
func accountsOf(ids ...int) []api.Account {
	var list []api.Account
	for kind := range uint8(9) {
		for _, id := range ids {
			list = append(list, api.Account{Kind: kind, Id: id})
		}
	}
	return list
}

// said is what books say of all that is in them, in a few questions.
func said(b books) string {
	text := fmt.Sprintln(b.Day(), b.Postings(), b.Due(-1), b.Due(b.Day()), b.Due(100000), b.Trial(100000))
	for thing := range 5 {
		text += fmt.Sprintln(b.Lots(thing))
	}
	for _, unit := range someUnits {
		text += fmt.Sprintln(b.Value(unit, b.Day()), b.Value(unit, 100000), b.Term(unit, 1, b.Day()), b.Term(unit, 10, 100000))
	}
	return text
}

// saidOf is what books say in all questions, on some days.
func saidOf(b books, days ...int) string {
	text := said(b)
	for _, day := range days {
		text += fmt.Sprintln(day, b.Due(day), b.Trial(day))
		for _, unit := range someUnits {
			text += fmt.Sprintln(b.Value(unit, day))
			for _, n := range []int{-1, 0, 1, 2, 3, 5, 10, 100} {
				text += fmt.Sprint(b.Term(unit, n, day), " ")
			}
		}
		for _, a := range accountsOf(0, 1, 2, 9) {
			text += fmt.Sprintln(a, b.Balances(a, day), b.Worth(a, day))
			for _, unit := range someUnits {
				text += fmt.Sprint(b.Balance(a, unit, day), b.Statement(a, unit, day-3, day+2), " ")
			}
		}
	}
	return text
}

func equal[T comparable](t *testing.T, what string, got, want []T) {
	t.Helper()
	if !slices.Equal(got, want) {
		t.Fatalf("%s: got %v; want %v", what, got, want)
	}
}

func same[T comparable](t *testing.T, what string, got, want T) {
	t.Helper()
	if got != want {
		t.Fatalf("%.300s: got %.3000s; want %.3000s", what, fmt.Sprint(got), fmt.Sprint(want))
	}
}
