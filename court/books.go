package court

import (
	"slices"
	"strings"

	"restante/api"
	"restante/people"
	"restante/places"
	"restante/reading"
)

// The longest parts of a line of a spelling rule.
const (
	longestCost = 9
	longestPart = 3
)

// Enter returns books with a line added.
func Enter(b api.Books, line string) (api.Books, api.Errno) {
	more, ok := readLine(line)
	if !ok {
		return api.Books{}, api.ErrForm
	}
	all := joined(b, more)
	if e := checkBooks(all); e != api.OK {
		return api.Books{}, e
	}
	return all, api.OK
}

// readLine returns books that have nothing but what a line says, and false if it is no line of the books.
func readLine(line string) (api.Books, bool) {
	word, rest, _ := strings.Cut(line, " ")
	switch word {
	case "place":
		x, e := places.Read(rest)
		return api.Books{Places: []api.PlaceEvent{x}}, e == api.OK
	case "people":
		x, e := people.Read(rest)
		return api.Books{People: []api.Entry{x}}, e == api.OK
	case "spell":
		x, ok := readSpell(rest)
		return api.Books{Spells: []api.Spell{x}}, ok
	}
	return api.Books{}, false
}

// readSpell returns the rule with the text COST FROM/TO, whose letters may be blanks.
func readSpell(text string) (api.Spell, bool) {
	digits, parts, _ := strings.Cut(text, " ")
	from, to, ok := strings.Cut(parts, "/")
	cost, isCost := decimal(digits)
	return api.Spell{From: from, To: to, Cost: cost}, ok && isCost && len(digits) <= longestCost && isPart(from) && isPart(to)
}

func isPart(s string) bool {
	for i := range len(s) {
		if !reading.IsLetter(s[i]) {
			return false
		}
	}
	return within(len(s), 1, longestPart)
}

// joined returns the books b with more behind each list.
func joined(b, more api.Books) api.Books {
	return api.Books{
		Places: slices.Concat(b.Places, more.Places),
		Spells: slices.Concat(b.Spells, more.Spells),
		People: slices.Concat(b.People, more.People),
	}
}

func checkBooks(b api.Books) api.Errno {
	if _, _, e := places.Open(b.Places); e != api.OK {
		return e
	}
	if e := places.CheckSpells(b.Spells); e != api.OK {
		return e
	}
	if _, e := people.Check(b.People); e != api.OK {
		return e
	}
	return checkNames(b, b.Spells)
}

// checkNames returns the first error of the spellings of the names in books.
func checkNames(b api.Books, spells []api.Spell) api.Errno {
	var names []string
	for _, x := range b.People {
		if x.Kind == api.EntryName {
			names = append(names, x.Name)
		}
	}
	for _, x := range b.Places {
		if x.Name != "" {
			names = append(names, x.Name)
		}
	}
	for _, name := range names {
		if _, e := places.Spelled(name, spells); e != api.OK {
			return e
		}
	}
	return api.OK
}

// clerk enters lines into books that were empty. It does what Enter does, but does not look again at what no line changes.
type clerk struct {
	books  api.Books
	places *places.Gazetteer
}

func newClerk() *clerk { return &clerk{places: places.New()} }

// enter adds a line. Behind an error the clerk is of no use.
func (c *clerk) enter(line string) api.Errno {
	more, ok := readLine(line)
	if !ok {
		return api.ErrForm
	}
	c.books = joined(c.books, more)
	for _, x := range more.Places {
		if e := c.places.Add(x); e != api.OK {
			return e
		}
	}
	if len(more.People) > 0 {
		if _, e := people.Check(c.books.People); e != api.OK {
			return e
		}
	}
	if len(more.Spells) == 0 {
		return checkNames(more, c.books.Spells)
	}
	if e := places.CheckSpells(c.books.Spells); e != api.OK {
		return e
	}
	return checkNames(c.books, c.books.Spells)
}

// Books enters the lines of all records of the books into empty books; if one is refused, it returns its index and the error.
func Books(l []api.Record) (api.Books, int, api.Errno) {
	c := newClerk()
	for i, r := range l {
		if r.Kind != api.RecBook {
			continue
		}
		if e := c.enter(r.Text); e != api.OK {
			return api.Books{}, i, e
		}
	}
	return c.books, 0, api.OK
}
