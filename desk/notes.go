package desk

import (
	"strconv"
	"strings"

	"restante/api"
	"restante/court"
)

// The first words of what is in notes.
const (
	recordWord  = "record"  // LENGTH, and behind the line the text of a record
	moneyWord   = "money"   // DAY LINE: an entry of the ledger
	arrivedWord = "arrived" // DAY NUMBER: the lots in a bag have arrived
	papersWord  = "papers"  // FROM THING NUMBER COUNT, and a line LAYER DUE LEFT UNIT for each lot
)

// papers is what goes with a bag: from which office it is, its number there, and the lots of its thing.
type papers struct {
	from, thing, number int
	lots                []api.Lot
}

func (p papers) text() string {
	text := papersWord + " " + numbers(p.from, p.thing, p.number, len(p.lots)) + "\n"
	for _, lot := range p.lots {
		text += numbers(lot.Layer, lot.Due, lot.Left) + " " + lot.Unit + "\n"
	}
	return text
}

// numbers returns a text of numbers.
func numbers(list ...int) string {
	var words []string
	for _, n := range list {
		words = append(words, strconv.Itoa(n))
	}
	return strings.Join(words, " ")
}

func recordNote(r api.Record) string {
	text, _ := court.PutRecord(r)
	return recordWord + " " + numbers(len(text)) + "\n" + text
}

func moneyNote(day int, line string) string {
	return moneyWord + " " + numbers(day) + " " + line + "\n"
}

func arrivedNote(day, number int) string {
	return arrivedWord + " " + numbers(day, number) + "\n"
}

// cutter returns a closure that cuts off a text what stands before an end, or all that is left if there is no such end, and reports whether there was something to cut.
func cutter(text *string) func(end string) (string, bool) {
	more := true
	return func(end string) (part string, ok bool) {
		ok = more
		part, *text, more = strings.Cut(*text, end)
		return part, ok
	}
}

// numberer returns a closure that cuts off a number. Only offices write what is read with it.
func numberer(next func(end string) (string, bool)) func(end string) int {
	return func(end string) int {
		word, _ := next(end)
		n, _ := strconv.Atoi(word)
		return n
	}
}

// cutPapers returns the papers of which the text stands behind the first word of theirs.
func cutPapers(next func(end string) (string, bool)) papers {
	number := numberer(next)
	p := papers{from: number(" "), thing: number(" "), number: number(" ")}
	for range number("\n") {
		lot := api.Lot{Thing: p.thing, Layer: number(" "), Due: number(" "), Left: number(" ")}
		lot.Unit, _ = next("\n")
		p.lots = append(p.lots, lot)
	}
	return p
}

// follow does again what a note says.
func (s *state) follow(note string) {
	next := cutter(&note)
	number := numberer(next)
	for note != "" {
		word, _ := next(" ")
		switch word {
		case recordWord:
			size := number("\n")
			r, _ := court.GetRecord(note[:size])
			note = note[size:]
			s.enter(r)
			s.records = append(s.records, r)
		case moneyWord:
			day := number(" ")
			line, _ := next("\n")
			entry, _ := entryOf(line)
			entry(s.ledger, day)
		case arrivedWord:
			day, bag := number(" "), number("\n")
			s.ledger.Arrived(day, bag)
		case papersWord:
			p := cutPapers(next)
			s.doors[p.thing] = p
		}
	}
}
