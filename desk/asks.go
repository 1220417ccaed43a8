package desk

import (
	"strconv"
	"strings"

	"restante/api"
	"restante/court"
	"restante/reading"
)

// listing returns a line with a word and the length of a list, and behind it what is printed for each element.
func listing[T any](word string, list []T, print func(x T) string) string {
	var text strings.Builder
	text.WriteString(words(word, len(list)))
	for _, x := range list {
		text.WriteString("\n" + print(x))
	}
	return text.String()
}

func (r *runner) show() func() {
	office, room := r.number(), r.number()
	return r.printing(func(d *Desk) (string, api.Errno) {
		views, e := d.Show(office, room)
		return listing("views", views, viewText), e
	})
}

func viewText(v api.View) string {
	text := words("view", v.Thing, v.Day, v.Opened)
	for _, docket := range v.Dockets {
		if len(docket) == 0 {
			text += " -"
		} else {
			text += " " + digitsOf(docket)
		}
	}
	for _, x := range v.Parts {
		cells, _ := reading.Print(x.Piece.Cells)
		text += "\n" + words("part", x.Look.Layer, x.Look.Piece, int(x.Piece.Kind)) + " " + cells
	}
	return text
}

func (r *runner) things() func() {
	office := r.number()
	return r.telling(func(d *Desk) string {
		return listing("things", d.Things(office), func(id int) string { return numbers(id) })
	})
}

func (r *runner) where() func() {
	thing := r.number()
	return r.telling(func(d *Desk) string {
		x := d.Where(thing)
		return words("where", int(x.Kind), x.Office, x.Room)
	})
}

func (r *runner) journal() func() {
	office := r.number()
	return r.telling(func(d *Desk) string {
		return listing("journal", d.Journal(office), func(x api.Record) string {
			text, _ := court.PutRecord(x)
			return words("record", len(text)) + "\n" + text
		})
	})
}

func (r *runner) trial() func() {
	office := r.number()
	return r.telling(func(d *Desk) string {
		return listing("trial", d.Trial(office), func(x api.TrialLine) string {
			return numbers(int(x.Account.Kind), x.Account.Id, x.N) + " " + x.Unit
		})
	})
}

func (r *runner) roots() func() {
	return r.telling(func(d *Desk) string {
		return listing("roots", d.Roots(), func(x api.Root) string { return numbers(x.Office, x.N) + " " + hexOf(x.Hash) })
	})
}

// hexOf returns the hexadecimal digits of a digest.
func hexOf(h api.Hash) string {
	text := ""
	for _, b := range h {
		text += strconv.FormatInt(int64(b>>4), 16) + strconv.FormatInt(int64(b&15), 16)
	}
	return text
}

func (r *runner) audit() func() {
	thing := r.number()
	return r.printing(func(d *Desk) (string, api.Errno) {
		x, e := d.Audit(thing)
		return words("audit", int(x.Answer), x.Breach.Journal, x.Breach.Index, int(x.What)), e
	})
}
