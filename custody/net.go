package custody

import (
	"slices"

	"restante/api"
)

// Net is a simulated network: the messages that wait on the line from each office to each other one.
type Net struct {
	offices int
	lines   [api.MaxOffices][api.MaxOffices][]string
}

// NewNet returns a network without messages.
func NewNet(offices int) (*Net, api.Errno) {
	if !within(offices, 1, api.MaxOffices) {
		return nil, api.ErrArg
	}
	return &Net{offices: offices}, api.OK
}

// line returns the messages on a line; nil if there is no such line.
func (n *Net) line(from, to int) *[]string {
	if n == nil || from == to || !within(from, 0, n.offices-1) || !within(to, 0, n.offices-1) {
		return nil
	}
	return &n.lines[from][to]
}

// Send puts a message at the end of a line.
func (n *Net) Send(from, to int, m string) api.Errno {
	line := n.line(from, to)
	switch {
	case n == nil:
		return api.ErrNil
	case line == nil:
		return api.ErrArg
	case len(m) > api.MaxMessage:
		return api.ErrLimit
	case len(*line) >= api.MaxWaiting:
		return api.ErrFull
	}
	*line = append(*line, m)
	return api.OK
}

// Waiting returns how many messages wait on a line.
func (n *Net) Waiting(from, to int) int {
	line := n.line(from, to)
	if line == nil {
		return 0
	}
	return len(*line)
}

// peek returns a message that waits on a line.
func (n *Net) peek(from, to, index int) (string, api.Errno) {
	if n == nil {
		return "", api.ErrNil
	}
	if !within(index, 0, n.Waiting(from, to)-1) {
		return "", api.ErrNone
	}
	return n.lines[from][to][index], api.OK
}

// Take removes a message from a line, and returns it.
func (n *Net) Take(from, to, index int) (string, api.Errno) {
	m, e := n.peek(from, to, index)
	if e == api.OK {
		n.lines[from][to] = slices.Delete(n.lines[from][to], index, index+1)
	}
	return m, e
}

// Lose removes a message from a line.
func (n *Net) Lose(from, to, index int) api.Errno {
	_, e := n.Take(from, to, index)
	return e
}

// Repeat puts a copy of a message at the end of its line.
func (n *Net) Repeat(from, to, index int) api.Errno {
	m, e := n.peek(from, to, index)
	if e != api.OK {
		return e
	}
	return n.Send(from, to, m)
}
