package custody

import (
	"strings"

	"restante/api"
)

// kind is a kind of operations.
type kind int

const (
	entering kind = iota + 1
	changing
	noting
	shipping
	hearing
	burning
	leaving
)

// operation is an operation of an office; its kind tells which of the fields it has.
type operation struct {
	kind   kind
	office int       // of which office it is
	token  api.Token // entering, changing
	to     int       // shipping
	ids    []int     // shipping, burning, leaving
	what   message   // hearing
	note   string
}

// text returns the record of an operation.
func (x operation) text() string {
	var b strings.Builder
	b.WriteString(lineOf(int(x.kind), x.office))
	switch x.kind {
	case entering, changing:
		b.WriteString(tokenText(x.token))
	case shipping:
		b.WriteString(lineOf(x.to) + lineOf(x.ids...))
	case hearing:
		m := x.what.text()
		b.WriteString(lineOf(len(m)) + m)
	case burning, leaving:
		b.WriteString(lineOf(x.ids...))
	}
	b.WriteString(x.note)
	return b.String()
}

// readOperation returns the operation with a record, and perhaps one for another string; it panics with ErrForm if there is none.
func readOperation(record string) operation {
	cut := cutter(&record)
	x := operation{kind: kind(number(cut(0, " ")))}
	x.office = number(cut(0, "\n"))
	switch x.kind {
	case entering, changing:
		x.token = cutToken(cut)
	case shipping:
		x.to = number(cut(0, "\n"))
		x.ids = numbers(cut(0, "\n"))
	case hearing:
		size := number(cut(0, "\n"))
		x.what = readMessage(cut(size, ""))
	case burning, leaving:
		x.ids = numbers(cut(0, "\n"))
	}
	x.note = record
	return x
}

// numbers returns the numbers that a line says.
func numbers(line string) []int {
	var list []int
	for _, word := range strings.Split(line, " ") {
		list = append(list, number(word))
	}
	return list
}
