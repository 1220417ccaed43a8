package places

import (
	"strconv"
	"strings"

	"restante/api"
	"restante/reading"
)

// layout says how events of a kind are written: the word of the kind, and which values follow the place.
type layout struct {
	word        string
	other, name bool
}

// layoutOf returns the layout of a kind; one without a word if there is no such kind.
func layoutOf(kind uint8) layout {
	switch kind {
	case api.PlaceFound:
		return layout{word: "found", other: true, name: true}
	case api.PlaceRename:
		return layout{word: "rename", name: true}
	case api.PlaceMove:
		return layout{word: "move", other: true}
	case api.PlaceMerge:
		return layout{word: "merge", other: true}
	case api.PlaceAlias:
		return layout{word: "alias", name: true}
	}
	return layout{}
}

// kindOf returns the kind with a word; 0 if there is none.
func kindOf(word string) uint8 {
	for kind := api.PlaceFound; kind <= api.PlaceAlias; kind++ {
		if layoutOf(kind).word == word {
			return kind
		}
	}
	return 0
}

// checkEvent returns the error of an event that does not depend on a gazetteer.
func checkEvent(e api.PlaceEvent) api.Errno {
	has := layoutOf(e.Kind)
	if has.word == "" || e.Day < 0 || e.Day > api.MaxDay || !isPlace(e.Place) || !validOther(e, has) {
		return api.ErrArg
	}
	if !has.name && e.Name != "" {
		return api.ErrArg
	}
	if has.name && !reading.IsName(e.Name) {
		return api.ErrForm
	}
	return api.OK
}

func isPlace(n int) bool { return n >= 1 && n <= api.MaxId }

func validOther(e api.PlaceEvent, has layout) bool {
	if e.Kind == api.PlaceMerge {
		return isPlace(e.Other) && e.Other != e.Place
	}
	return e.Other == 0 || has.other && isPlace(e.Other)
}

// Write returns the line of an event.
func Write(e api.PlaceEvent) (string, api.Errno) {
	if f := checkEvent(e); f != api.OK {
		return "", f
	}
	has := layoutOf(e.Kind)
	words := []string{strconv.Itoa(e.Day), has.word, strconv.Itoa(e.Place)}
	if has.other {
		words = append(words, strconv.Itoa(e.Other))
	}
	if has.name {
		words = append(words, e.Name)
	}
	return strings.Join(words, " "), api.OK
}

// Read returns the event that a line is written for.
func Read(line string) (api.PlaceEvent, api.Errno) {
	// Each event has one line, so whatever guess misreads is found by writing the event again.
	e := guess(line)
	again, f := Write(e)
	if f != api.OK || again != line {
		return api.PlaceEvent{}, api.ErrForm
	}
	return e, api.OK
}

// guess returns the only event of which a text might be the line.
func guess(line string) api.PlaceEvent {
	day, rest, _ := strings.Cut(line, " ")
	word, rest, _ := strings.Cut(rest, " ")
	place, rest, _ := strings.Cut(rest, " ")
	e := api.PlaceEvent{Day: number(day), Kind: kindOf(word), Place: number(place)}
	if layoutOf(e.Kind).other {
		other, behind, _ := strings.Cut(rest, " ")
		e.Other = number(other)
		rest = behind
	}
	e.Name = rest
	return e
}

// number returns the number that a word says; -1, which no event has, if it says none.
func number(word string) int {
	n, err := strconv.Atoi(word)
	if err != nil {
		return -1
	}
	return n
}
