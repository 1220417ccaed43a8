package people

import (
	"strconv"
	"strings"

	"restante/api"
	"restante/reading"
)

// wordOf returns the word of a kind; the empty string if there is no such kind.
func wordOf(kind uint8) string {
	switch kind {
	case api.EntryName:
		return "name"
	case api.EntryLive:
		return "live"
	case api.EntryDeath:
		return "death"
	case api.EntryHeir:
		return "heir"
	case api.EntryRedirect:
		return "redirect"
	case api.EntryCancel:
		return "cancel"
	case api.EntryRefuse:
		return "refuse"
	}
	return ""
}

// numbersOf returns where an entry has the numbers that stand behind the word in its line, in their order.
func numbersOf(x *api.Entry) []*int {
	switch x.Kind {
	case api.EntryName:
		return []*int{&x.Person, &x.Since, &x.Until}
	case api.EntryLive:
		return []*int{&x.Person, &x.Place, &x.Since, &x.Until}
	case api.EntryDeath:
		return []*int{&x.Person, &x.Since}
	case api.EntryHeir:
		return []*int{&x.Person, &x.Other, &x.Since, &x.Until}
	case api.EntryRedirect:
		return []*int{&x.Order, &x.Person, &x.Place, &x.Other, &x.At, &x.Since, &x.Until}
	case api.EntryCancel:
		return []*int{&x.Order, &x.Since}
	case api.EntryRefuse:
		return []*int{&x.Person, &x.Place, &x.Other, &x.Since, &x.Until}
	}
	return nil
}

// checkEntry returns the error of an entry that does not depend on others.
func checkEntry(x api.Entry) api.Errno {
	if !validDays(x) || !validIds(x) || x != onlyWritten(x) {
		return api.ErrArg
	}
	if x.Kind == api.EntryName && !reading.IsName(x.Name) {
		return api.ErrForm
	}
	return api.OK
}

func validDays(x api.Entry) bool {
	return isDay(x.Day) && isDay(x.Since) && (x.Until == 0 || isDay(x.Until) && x.Until > x.Since)
}

func isDay(n int) bool { return n >= 0 && n <= api.MaxDay }

func isId(n int) bool { return n >= 1 && n <= api.MaxId }

func isIdOrZero(n int) bool { return n == 0 || isId(n) }

// validIds reports whether an entry has the ids that its kind needs. That it has no others is left to onlyWritten.
func validIds(x api.Entry) bool {
	switch x.Kind {
	case api.EntryName, api.EntryDeath:
		return isId(x.Person)
	case api.EntryLive:
		return isId(x.Person) && isId(x.Place)
	case api.EntryHeir:
		return isId(x.Person) && isId(x.Other) && x.Person != x.Other
	case api.EntryRedirect:
		return isId(x.Order) && isId(x.Person) && isId(x.Other) && isIdOrZero(x.Place) && isIdOrZero(x.At)
	case api.EntryCancel:
		return isId(x.Order)
	case api.EntryRefuse:
		return isId(x.Person) && isIdOrZero(x.Place) && isIdOrZero(x.Other)
	}
	return false
}

// onlyWritten returns an entry without the fields that its line does not have.
func onlyWritten(x api.Entry) api.Entry {
	y := api.Entry{Day: x.Day, Kind: x.Kind}
	to := numbersOf(&y)
	for i, from := range numbersOf(&x) {
		*to[i] = *from
	}
	if x.Kind == api.EntryName {
		y.Name = x.Name
	}
	return y
}

// Write returns the line of an entry.
func Write(x api.Entry) (string, api.Errno) {
	if e := checkEntry(x); e != api.OK {
		return "", e
	}
	words := []string{strconv.Itoa(x.Day), wordOf(x.Kind)}
	for _, n := range numbersOf(&x) {
		words = append(words, strconv.Itoa(*n))
	}
	if x.Kind == api.EntryName {
		words = append(words, x.Name)
	}
	return strings.Join(words, " "), api.OK
}

// Read returns the entry that a line is written for.
func Read(line string) (api.Entry, api.Errno) {
	day, rest, _ := strings.Cut(line, " ")
	word, rest, _ := strings.Cut(rest, " ")
	read := readers()[word]
	if read == nil {
		return api.Entry{}, api.ErrForm
	}
	x := read(rest)
	x.Day = number(day)
	// Each entry has one line, so whatever a reader misreads is found by writing the entry again.
	again, e := Write(x)
	if e != api.OK || again != line {
		return api.Entry{}, api.ErrForm
	}
	return x, api.OK
}

// readers returns, for the word of each kind, what makes an entry without its day of the text behind the word.
func readers() map[string]func(text string) api.Entry {
	list := map[string]func(string) api.Entry{}
	for kind := api.EntryName; kind <= api.EntryRefuse; kind++ {
		list[wordOf(kind)] = func(text string) api.Entry {
			x := api.Entry{Kind: kind}
			for _, n := range numbersOf(&x) {
				word, rest, _ := strings.Cut(text, " ")
				*n = number(word)
				text = rest
			}
			x.Name = text
			return x
		}
	}
	return list
}

// number returns the number that a word says; -1, which no entry has, if it says none.
func number(word string) int {
	n, err := strconv.Atoi(word)
	if err != nil {
		return -1
	}
	return n
}
