package desk

import (
	"strconv"
	"strings"

	"restante/api"
	"restante/drawers"
)

// moneyDigits is how many digits a number in a line about money may have.
const moneyDigits = 10

// entry is an operation of a ledger.
type entry func(l *drawers.Ledger, day int) api.Errno

// Money does an entry of the ledger of an office.
func (d *Desk) Money(office int, line string) api.Errno {
	return d.command(office, func(s *draft) api.Errno {
		do, ok := entryOf(line)
		if !ok {
			return api.ErrForm
		}
		// An operation of a ledger that returns an error has changed nothing.
		if e := do(s.ledger, s.today); e != api.OK {
			return e
		}
		s.tried = true
		s.note.WriteString(moneyNote(s.today, line))
		return api.OK
	})
}

// entryOf returns the entry that a line says, and whether the line has one of the forms.
func entryOf(line string) (entry, bool) {
	word, rest, _ := strings.Cut(line, " ")
	switch word {
	case "unit":
		name, kind, ok := cutLast(rest)
		return func(l *drawers.Ledger, day int) api.Errno { return l.SetUnit(day, name, uint8(kind)) }, ok && within(kind, 1, 3)
	case "value":
		name, grains, ok := cutLast(rest)
		return func(l *drawers.Ledger, day int) api.Errno { return l.SetValue(day, name, grains) }, ok
	case "term":
		rest, days, ok := cutLast(rest)
		name, least, isLeast := cutLast(rest)
		return func(l *drawers.Ledger, day int) api.Errno { return l.SetTerm(day, name, least, days) }, ok && isLeast
	case "convert":
		word, rest, _ := strings.Cut(rest, " ")
		lot, isLot := decimal(word, moneyDigits)
		name, n, ok := cutLast(rest)
		return func(l *drawers.Ledger, day int) api.Errno {
			_, _, e := l.Convert(day, lot, name, n)
			return e
		}, ok && isLot
	}
	return nil, false
}

// cutLast returns what stands before the last blank of a text, the number behind it, and whether there are these.
func cutLast(text string) (string, int, bool) {
	at := strings.LastIndex(text, " ")
	if at < 0 {
		return "", 0, false
	}
	n, ok := decimal(text[at+1:], moneyDigits)
	return text[:at], n, ok
}

// decimal returns the number that a word of at most so many digits says, and whether it is one in its shortest form.
func decimal(word string, most int) (int, bool) {
	if len(word) > most {
		return 0, false
	}
	n, err := strconv.Atoi(word)
	return n, err == nil && n >= 0 && strconv.Itoa(n) == word
}
