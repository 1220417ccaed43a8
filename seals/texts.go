package seals

import (
	"strconv"
	"strings"

	"restante/api"
	"restante/reading"
)

// PutThing returns the text of a thing with its seal and the room in which it is.
func PutThing(t api.Thing, s api.Seal, room int) (string, api.Errno) {
	if e := CheckSeal(t, s); e != api.OK {
		return "", e
	}
	if !isRoom(room) {
		return "", api.ErrArg
	}
	text := strings.Join(linesOf(t, s, room), "\n") + "\n"
	if len(text) > api.MaxBody {
		return "", api.ErrLimit
	}
	return text, api.OK
}

func linesOf(t api.Thing, s api.Seal, room int) []string {
	lines := []string{words("thing", t.Id, t.Day, room, s.Opened)}
	for _, layer := range t.Layers {
		lines = append(lines, "layer")
		for _, piece := range layer.Pieces {
			text, _ := reading.Print(piece.Cells)
			lines = append(lines, words("piece", int(piece.Kind))+" "+text)
		}
		for _, x := range layer.Goods {
			lines = append(lines, words("goods", x.N)+" "+x.Unit)
		}
	}
	for _, x := range s.Rooms {
		line := words("shown", x.Room)
		for _, l := range x.Looks {
			line += words("", l.Layer) + "." + strconv.Itoa(l.Piece)
		}
		lines = append(lines, line)
	}
	return lines
}

// words returns a word and numbers behind it, each behind a blank.
func words(text string, numbers ...int) string {
	for _, n := range numbers {
		text += " " + strconv.Itoa(n)
	}
	return text
}

// GetThing returns the thing, the seal and the room of which a text is the one.
func GetThing(text string) (api.Thing, api.Seal, int, api.Errno) {
	if len(text) > api.MaxBody {
		return api.Thing{}, api.Seal{}, 0, api.ErrForm
	}
	var r reader
	for _, line := range strings.Split(text, "\n") {
		r.line(line)
	}
	// Each thing has one text, so whatever the reader misreads is found by writing the thing again.
	again, e := PutThing(r.thing, r.seal, r.room)
	if e != api.OK || again != text {
		return api.Thing{}, api.Seal{}, 0, api.ErrForm
	}
	return r.thing, r.seal, r.room, api.OK
}

// reader is what the lines that were read say.
type reader struct {
	thing api.Thing
	seal  api.Seal
	room  int
}

func (r *reader) line(line string) {
	word, rest, _ := strings.Cut(line, " ")
	switch word {
	case "thing":
		r.head(rest)
	case "layer":
		r.thing.Layers = append(r.thing.Layers, api.Layer{})
	case "piece", "goods":
		if n := len(r.thing.Layers); n > 0 {
			fill(&r.thing.Layers[n-1], word, rest)
		}
	case "shown":
		r.shown(rest)
	}
}

func (r *reader) head(rest string) {
	var numbers [4]int
	for i := range numbers {
		word, after, _ := strings.Cut(rest, " ")
		numbers[i] = number(word)
		rest = after
	}
	r.thing.Id, r.thing.Day, r.room, r.seal.Opened = numbers[0], numbers[1], numbers[2], numbers[3]
	r.seal.Thing = r.thing.Id
}

// fill adds a piece or goods to a layer.
func fill(layer *api.Layer, word, rest string) {
	first, text, _ := strings.Cut(rest, " ")
	if word == "goods" {
		layer.Goods = append(layer.Goods, api.Amount{Unit: text, N: number(first)})
		return
	}
	cells, _ := reading.Parse(text)
	layer.Pieces = append(layer.Pieces, api.Piece{Kind: uint8(number(first)), Cells: cells})
}

func (r *reader) shown(rest string) {
	room, looks, more := strings.Cut(rest, " ")
	x := api.Shown{Room: number(room)}
	for more {
		var look string
		look, looks, more = strings.Cut(looks, " ")
		layer, piece, _ := strings.Cut(look, ".")
		x.Looks = append(x.Looks, api.Look{Layer: number(layer), Piece: number(piece)})
	}
	r.seal.Rooms = append(r.seal.Rooms, x)
}

// number returns the number that a word says; -1, which no text has, if it says none.
func number(word string) int {
	n, err := strconv.Atoi(word)
	if err != nil {
		return -1
	}
	return n
}
