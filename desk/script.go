package desk

import (
	"strings"

	"restante/api"
)

// scriptDigits is how many digits a number in a script may have.
const scriptDigits = 16

// runner reads the lines of a script, and runs it; what it prints is collected in its Builder.
type runner struct {
	strings.Builder
	desk  *Desk
	lines []string                        // of the script
	at    int                             // how many lines were read
	next  func(end string) (string, bool) // cuts a part off the line that is read
	thing *api.Thing                      // that was begun; nil if there is none
}

// Run runs a script.
func Run(script string) (string, int, api.Errno) {
	if len(script) > api.MaxScript {
		return "", 0, api.ErrLimit
	}
	r := &runner{lines: linesOf(script)}
	steps, bad := r.read()
	if bad > 0 {
		return "", bad, api.ErrForm
	}
	for _, step := range steps {
		step()
	}
	return r.String(), 0, api.OK
}

// linesOf returns the lines of a script, of which the last one may lack its line feed.
func linesOf(script string) []string {
	lines := strings.Split(script, "\n")
	if last := len(lines) - 1; lines[last] == "" {
		lines = lines[:last]
	}
	return lines
}

// read returns what the lines do, or the number of the first one that does not have a form.
func (r *runner) read() (steps []func(), bad int) {
	number := 0
	defer func() {
		if recover() != nil {
			steps, bad = nil, number
		}
	}()
	commands := r.commands()
	for r.at < len(r.lines) {
		line := r.lines[r.at]
		r.at++
		number = r.at
		if line == "" || line[0] == '#' {
			continue
		}
		r.next = cutter(&line)
		command, ok := commands[r.word()]
		require(ok)
		if step := command(); step != nil {
			steps = append(steps, step)
		}
		_, more := r.next(" ")
		require(!more)
	}
	return steps, 0
}

// require leaves the reading of a line that does not have a form.
func require(ok bool) {
	if !ok {
		panic(api.ErrForm)
	}
}

// commands returns what reads the rest of a line and returns what it does, nil if that is nothing, by the first words of lines.
func (r *runner) commands() map[string]func() func() {
	return map[string]func() func(){
		"desk": r.newDesk, "day": r.day, "rules": r.rules, "publish": r.publish, "money": r.money,
		"thing": r.begin, "layer": r.layer, "piece": r.piece, "goods": r.goods, "arrive": r.arrive,
		"work": r.work, "hand": r.hand, "ship": r.ship, "offer": r.offer, "unpack": r.unpack, "burn": r.burn,
		"carry": r.carry, "lose": r.lose, "repeat": r.repeat, "stop": r.stop, "crash": r.crash,
		"claim": r.claim, "answer": r.answer, "refund": r.refund,
		"show": r.show, "things": r.things, "where": r.where, "journal": r.journal, "trial": r.trial, "roots": r.roots, "audit": r.audit,
	}
}

// word cuts the next word off the line.
func (r *runner) word() string {
	word, ok := r.next(" ")
	require(ok)
	return word
}

// rest cuts off everything that is left of the line.
func (r *runner) rest() string {
	text, ok := r.next("\n")
	require(ok)
	return text
}

// digits cuts a number of at most so many digits off the line.
func (r *runner) digits(most int) int {
	n, ok := decimal(r.word(), most)
	require(ok)
	return n
}

func (r *runner) number() int { return r.digits(scriptDigits) }

// short cuts off a number of at most two digits.
func (r *runner) short() uint8 { return uint8(r.digits(2)) }

// signed returns the number that a word says, perhaps with a minus sign.
func signed(word string) int {
	digits, isNegative := strings.CutPrefix(word, "-")
	n, ok := decimal(digits, scriptDigits)
	require(ok && (!isNegative || n > 0))
	if isNegative {
		return -n
	}
	return n
}

// print prints a line.
func (r *runner) print(line string) { r.WriteString(line + "\n") }

// words returns a word and numbers behind it.
func words(word string, list ...int) string { return word + " " + numbers(list...) }

// onDesk returns a step that is run if there is a desk; otherwise it prints none.
func (r *runner) onDesk(step func(d *Desk)) func() {
	return func() {
		if r.desk == nil {
			r.print("none")
			return
		}
		step(r.desk)
	}
}

// printing returns a step that prints what a command or a question returns if it returns no error.
func (r *runner) printing(do func(d *Desk) (string, api.Errno)) func() {
	return r.onDesk(func(d *Desk) {
		text, e := do(d)
		if e != api.OK {
			text = words("error", int(e))
		}
		r.print(text)
	})
}

// telling returns a step that prints the answer to a question that has no errors.
func (r *runner) telling(ask func(d *Desk) string) func() {
	return r.printing(func(d *Desk) (string, api.Errno) { return ask(d), api.OK })
}

// doing returns a step that prints ok if a command returns no error.
func (r *runner) doing(do func(d *Desk) api.Errno) func() {
	return r.printing(func(d *Desk) (string, api.Errno) { return "ok", do(d) })
}
