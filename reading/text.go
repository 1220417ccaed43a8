package reading

import (
	"strconv"

	"restante/api"
)

// Print returns the text of cells.
func Print(cells []api.Cell) (string, api.Errno) {
	if e := CheckCells(cells); e != api.OK {
		return "", e
	}
	var text []byte
	for _, cell := range cells {
		text = appendCell(text, cell)
	}
	return string(text), api.OK
}

func appendCell(text []byte, cell api.Cell) []byte {
	if isBare(cell) {
		return append(text, cell.Alts[0].Letters...)
	}
	mark := byte('(')
	for _, alt := range cell.Alts {
		text = append(text, mark)
		text = append(text, alt.Letters...)
		if alt.Cost != 0 {
			text = append(text, ':')
			text = strconv.AppendInt(text, int64(alt.Cost), 10)
		}
		mark = '|'
	}
	return append(text, ')')
}

// isBare reports whether a cell is written as its letter, without parentheses.
func isBare(cell api.Cell) bool {
	return len(cell.Alts) == 1 && len(cell.Alts[0].Letters) == 1 && cell.Alts[0].Cost == 0
}

// Parse returns the cells of a text.
func Parse(s string) (cells []api.Cell, e api.Errno) {
	defer func() {
		if recover() != nil {
			cells, e = nil, api.ErrForm
		}
	}()
	p := parser{text: s}
	for p.at < len(p.text) {
		cell := p.cell()
		cells = append(cells, cell)
		p.need(len(cells) <= api.MaxCells)
	}
	p.need(CheckCells(cells) == api.OK)
	return cells, api.OK
}

// parser reads a text from the byte at; its methods panic with malformed if the text does not go on as they need.
type parser struct {
	text string
	at   int
}

type malformed struct{}

func (p *parser) need(holds bool) {
	if !holds {
		panic(malformed{})
	}
}

// peek returns the next byte, or 0, which no text contains.
func (p *parser) peek() byte {
	if p.at == len(p.text) {
		return 0
	}
	return p.text[p.at]
}

// take skips the next byte if it is this mark.
func (p *parser) take(mark byte) bool {
	if p.peek() != mark {
		return false
	}
	p.at++
	return true
}

func (p *parser) cell() api.Cell {
	if !p.take('(') {
		p.need(IsLetter(p.peek()))
		p.at++
		return api.Cell{Alts: []api.Alt{{Letters: p.text[p.at-1 : p.at]}}}
	}
	var cell api.Cell
	for {
		alt := p.alternative()
		cell.Alts = append(cell.Alts, alt)
		p.need(len(cell.Alts) <= api.MaxAlts)
		if p.take(')') {
			break
		}
		p.need(p.take('|'))
	}
	p.need(!isBare(cell))
	return cell
}

func (p *parser) alternative() api.Alt {
	begin := p.at
	for IsLetter(p.peek()) {
		p.at++
	}
	alt := api.Alt{Letters: p.text[begin:p.at]}
	if p.take(':') {
		alt.Cost = p.cost()
	}
	return alt
}

// cost reads a cost that is not 0, since no other one is written.
func (p *parser) cost() int {
	p.need(p.peek() != '0')
	begin, cost := p.at, 0
	for p.peek() >= '0' && p.peek() <= '9' {
		cost = 10*cost + int(p.peek()-'0')
		p.need(cost <= api.MaxAlt)
		p.at++
	}
	p.need(p.at > begin)
	return cost
}
