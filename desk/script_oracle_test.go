package desk_test

import (
	"fmt"
	"regexp"
	"strings"

	"restante/api"
	"restante/court"
	"restante/desk"
	"restante/reading"
)

// form is a form of lines; N stands for a number, S for one of at most two digits, T for everything that follows, and M for any numbers, perhaps negative.
type form struct {
	pattern *regexp.Regexp
	run     func(d *desk.Desk, n []int, text string) string
}

// formOf returns a form.
func formOf(words string, run func(d *desk.Desk, n []int, text string) string) form {
	pattern := strings.NewReplacer(" N", " (0|[1-9][0-9]{0,15})", " S", " (0|[1-9][0-9]?)", " T", " ((?s:.*))", " M", "((?: (?:0|-?[1-9][0-9]{0,15}))*)").Replace(words)
	return form{regexp.MustCompile("^" + pattern + "$"), run}
}

func ok(e api.Errno) string {
	if e != api.OK {
		return fmt.Sprintf("error %d\n", e)
	}
	return "ok\n"
}

// listed returns a line with a word and the number of lines, and the lines.
func listed(e api.Errno, word string, lines []string) string {
	if e != api.OK {
		return ok(e)
	}
	text := fmt.Sprintf("%s %d\n", word, len(lines))
	for _, line := range lines {
		text += line + "\n"
	}
	return text
}

func viewOf(v api.View) string {
	text := fmt.Sprintf("view %d %d %d", v.Thing, v.Day, v.Opened)
	for _, docket := range v.Dockets {
		digits := strings.Trim(fmt.Sprint(docket), "[]")
		if digits = strings.ReplaceAll(digits, " ", ""); digits == "" {
			digits = "-"
		}
		text += " " + digits
	}
	for _, p := range v.Parts {
		cells, _ := reading.Print(p.Piece.Cells)
		text += fmt.Sprintf("\npart %d %d %d %s", p.Look.Layer, p.Look.Piece, p.Piece.Kind, cells)
	}
	return text
}

// commandForms returns the forms of lines that run a command.
func commandForms() []form {
	return []form{
		formOf("day N", func(d *desk.Desk, n []int, s string) string { return ok(d.Advance(n[0])) }),
		formOf("publish N T", func(d *desk.Desk, n []int, s string) string { return ok(d.Publish(n[0], s)) }),
		formOf("money N T", func(d *desk.Desk, n []int, s string) string { return ok(d.Money(n[0], s)) }),
		formOf("work N N", func(d *desk.Desk, n []int, s string) string {
			v, e := d.Work(n[0], n[1])
			if e != api.OK {
				return ok(e)
			}
			return fmt.Sprintf("verdict %d %d %d %d %d\n", v.Kind, v.Who.Person, v.Place, v.Look.Layer, v.Look.Piece)
		}),
		formOf("hand N N N", func(d *desk.Desk, n []int, s string) string { return ok(d.Hand(n[0], n[1], n[2])) }),
		formOf("ship N N N", func(d *desk.Desk, n []int, s string) string { return ok(d.Ship(n[0], n[1], n[2])) }),
		formOf("offer N", func(d *desk.Desk, n []int, s string) string { return ok(d.Offer(n[0])) }),
		formOf("unpack N N N", func(d *desk.Desk, n []int, s string) string { return ok(d.Unpack(n[0], n[1], n[2])) }),
		formOf("burn N N", func(d *desk.Desk, n []int, s string) string { return ok(d.Burn(n[0], n[1])) }),
		formOf("carry N N N", func(d *desk.Desk, n []int, s string) string { return ok(d.Carry(n[0], n[1], n[2])) }),
		formOf("lose N N N", func(d *desk.Desk, n []int, s string) string { return ok(d.Lose(n[0], n[1], n[2])) }),
		formOf("repeat N N N", func(d *desk.Desk, n []int, s string) string { return ok(d.Repeat(n[0], n[1], n[2])) }),
		formOf("stop N N", func(d *desk.Desk, n []int, s string) string { return ok(d.Stop(n[0], n[1])) }),
		formOf("crash N M", func(d *desk.Desk, n []int, s string) string { return ok(d.Crash(n[0], numbersIn(s))) }),
		formOf("claim N N N S", func(d *desk.Desk, n []int, s string) string {
			number, e := d.Claim(n[0], n[1], n[2], uint8(n[3]))
			if e != api.OK {
				return ok(e)
			}
			return fmt.Sprintf("claim %d\n", number)
		}),
		formOf("answer N N", func(d *desk.Desk, n []int, s string) string {
			b, e := d.Answer(n[0], n[1])
			if e != api.OK {
				return ok(e)
			}
			return fmt.Sprintf("bundle %d\n%s", len(court.Print(b)), court.Print(b))
		}),
		formOf("refund N N N", func(d *desk.Desk, n []int, s string) string {
			sums, e := d.Refund(n[0], n[1], n[2])
			var lines []string
			for _, x := range sums {
				lines = append(lines, fmt.Sprintf("%d %s", x.N, x.Unit))
			}
			return listed(e, "paid", lines)
		}),
	}
}

// questionForms returns the forms of lines that ask something.
func questionForms() []form {
	return []form{
		formOf("show N N", func(d *desk.Desk, n []int, s string) string {
			views, e := d.Show(n[0], n[1])
			var lines []string
			for _, v := range views {
				lines = append(lines, viewOf(v))
			}
			return listed(e, "views", lines)
		}),
		formOf("things N", func(d *desk.Desk, n []int, s string) string {
			var lines []string
			for _, id := range d.Things(n[0]) {
				lines = append(lines, fmt.Sprint(id))
			}
			return listed(api.OK, "things", lines)
		}),
		formOf("where N", func(d *desk.Desk, n []int, s string) string {
			x := d.Where(n[0])
			return fmt.Sprintf("where %d %d %d\n", x.Kind, x.Office, x.Room)
		}),
		formOf("journal N", func(d *desk.Desk, n []int, s string) string {
			var lines []string
			for _, r := range d.Journal(n[0]) {
				text, _ := court.PutRecord(r)
				lines = append(lines, fmt.Sprintf("record %d\n%s", len(text), text))
			}
			return listed(api.OK, "journal", lines)
		}),
		formOf("trial N", func(d *desk.Desk, n []int, s string) string {
			var lines []string
			for _, x := range d.Trial(n[0]) {
				lines = append(lines, fmt.Sprintf("%d %d %d %s", x.Account.Kind, x.Account.Id, x.N, x.Unit))
			}
			return listed(api.OK, "trial", lines)
		}),
		formOf("roots", func(d *desk.Desk, n []int, s string) string {
			var lines []string
			for _, x := range d.Roots() {
				lines = append(lines, fmt.Sprintf("%d %d %x", x.Office, x.N, x.Hash))
			}
			return listed(api.OK, "roots", lines)
		}),
		formOf("audit N", func(d *desk.Desk, n []int, s string) string {
			x, e := d.Audit(n[0])
			if e != api.OK {
				return ok(e)
			}
			return fmt.Sprintf("audit %d %d %d %d\n", x.Answer, x.Breach.Journal, x.Breach.Index, x.What)
		}),
	}
}

// numbersIn returns the numbers in a text.
func numbersIn(s string) []int {
	var list []int
	for _, word := range strings.Fields(s) {
		list = append(list, number(word))
	}
	return list
}

// interpreter reads a script line by line.
type interpreter struct {
	d     *desk.Desk
	thing *api.Thing
	out   string
}

var (
	allForms   = append(commandForms(), questionForms()...)
	deskForm   = formOf("desk N N N", nil).pattern
	rulesForm  = formOf("rules N N", nil).pattern
	thingForm  = formOf("thing N N", nil).pattern
	pieceForm  = formOf("piece S T", nil).pattern
	goodsForm  = formOf("goods N T", nil).pattern
	arriveForm = formOf("arrive N N", nil).pattern
)

// buildsThing does a line that builds a thing, and reports whether it is one, and whether it has the form.
func (i *interpreter) buildsThing(line string) (is, hasForm bool) {
	word, _, _ := strings.Cut(line, " ")
	hasLayer := i.thing != nil && len(i.thing.Layers) > 0
	switch word {
	case "thing":
		x := thingForm.FindStringSubmatch(line)
		if x == nil {
			return true, false
		}
		i.thing = &api.Thing{Id: number(x[1]), Day: number(x[2])}
	case "layer":
		if line != "layer" || i.thing == nil {
			return true, false
		}
		i.thing.Layers = append(i.thing.Layers, api.Layer{})
	case "piece":
		x := pieceForm.FindStringSubmatch(line)
		if x == nil || !hasLayer {
			return true, false
		}
		cells, e := reading.Parse(x[2])
		if e != api.OK {
			return true, false
		}
		last := &i.thing.Layers[len(i.thing.Layers)-1]
		last.Pieces = append(last.Pieces, api.Piece{Kind: uint8(number(x[1])), Cells: cells})
	case "goods":
		x := goodsForm.FindStringSubmatch(line)
		if x == nil || !hasLayer {
			return true, false
		}
		last := &i.thing.Layers[len(i.thing.Layers)-1]
		last.Goods = append(last.Goods, api.Amount{Unit: x[2], N: number(x[1])})
	default:
		return false, false
	}
	return true, true
}

// runs does a line that runs something, and reports whether it has a form. The lines of rules are given.
func (i *interpreter) runs(line, source string) bool {
	on := func(run func() string) {
		if i.d == nil {
			i.out += "none\n"
		} else {
			i.out += run()
		}
	}
	if x := deskForm.FindStringSubmatch(line); x != nil {
		d, e := desk.New(api.Config{Offices: number(x[1]), Sectors: number(x[2]), Salt: number(x[3])})
		if e == api.OK {
			i.d = d
		}
		i.out += ok(e)
		return true
	}
	if x := rulesForm.FindStringSubmatch(line); x != nil {
		on(func() string { return ok(i.d.Rules(number(x[1]), source)) })
		return true
	}
	if x := arriveForm.FindStringSubmatch(line); x != nil && i.thing != nil {
		thing := *i.thing
		i.thing = nil
		on(func() string { return ok(i.d.Arrive(number(x[1]), number(x[2]), thing)) })
		return true
	}
	for _, f := range allForms {
		x := f.pattern.FindStringSubmatch(line)
		if x == nil {
			continue
		}
		var n []int
		for _, word := range x[1:] {
			n = append(n, number(word))
		}
		text := ""
		if len(x) > 1 {
			text = x[len(x)-1]
		}
		on(func() string { return f.run(i.d, n, text) })
		return true
	}
	return false
}

// interpret does what Run has to do.
func interpret(script string) (string, int, api.Errno) {
	if len(script) > 20000 {
		return "", 0, api.ErrLimit
	}
	lines := strings.SplitAfter(script, "\n")
	if lines[len(lines)-1] == "" {
		lines = lines[:len(lines)-1]
	}
	i := &interpreter{}
	for at := 0; at < len(lines); at++ {
		line, source := strings.TrimSuffix(lines[at], "\n"), ""
		first := at + 1
		if x := rulesForm.FindStringSubmatch(line); x != nil {
			if number(x[2]) > len(lines)-at-1 {
				return "", first, api.ErrForm
			}
			for range number(x[2]) {
				at++
				source += strings.TrimSuffix(lines[at], "\n") + "\n"
			}
		}
		if line == "" || strings.HasPrefix(line, "#") {
			continue
		}
		if is, hasForm := i.buildsThing(line); is && hasForm {
			continue
		}
		if !i.runs(line, source) {
			return "", first, api.ErrForm
		}
	}
	return i.out, 0, api.OK
}
