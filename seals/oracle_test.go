package seals_test

import (
	"fmt"
	"regexp"
	"slices"
	"strconv"
	"strings"
	"testing"

	"restante/api"
	"restante/reading"
	"restante/seals"
)

// The oracles of the tests follow the definitions of the chapter word by word, without any of the package's own code.

func same[T comparable](t *testing.T, what string, got, want T) {
	t.Helper()
	if got != want {
		t.Fatalf("%s: got %v; want %v", what, got, want)
	}
}

// show is a text of values in which nil and empty slices are the same.
func show(values ...any) string { return fmt.Sprintf("%+v", values) }

// equal compares values by their texts.
func equal(t *testing.T, what string, got, want any) {
	t.Helper()
	if show(got) != show(want) {
		t.Fatalf("%s: got %+v; want %+v", what, got, want)
	}
}

func in(n, least, most int) bool { return n >= least && n <= most }

// sizeOf returns the number of nodes and the depth of a condition.
func sizeOf(c api.Cond) (nodes, depth int) {
	nodes = 1
	for _, x := range c.Of {
		n, d := sizeOf(x)
		nodes += n
		depth = max(depth, d)
	}
	return nodes, depth + 1
}

func validNodes(c api.Cond) bool {
	switch c.Op {
	case 1, 7:
		return c.N == 0 && len(c.Of) == 0
	case 2:
		return in(c.N, 1, 8) && len(c.Of) == 0
	case 3, 4:
		return in(c.N, 0, 100000) && len(c.Of) == 0
	case 5, 6:
		return in(c.N, 0, 2) && len(c.Of) == 0
	case 8:
		return c.N == 0 && len(c.Of) == 1 && validNodes(c.Of[0])
	case 9, 10:
		return c.N == 0 && len(c.Of) >= 2 && !slices.ContainsFunc(c.Of, func(x api.Cond) bool { return !validNodes(x) })
	}
	return false
}

// condError is ErrLimit, ErrArg or OK.
func condError(c api.Cond) api.Errno {
	if nodes, depth := sizeOf(c); nodes > 40 || depth > 6 {
		return api.ErrLimit
	}
	if !validNodes(c) {
		return api.ErrArg
	}
	return api.OK
}

// holdsAt reports whether a valid condition holds.
func holdsAt(c api.Cond, f api.Fact) bool {
	holds := 0
	for _, x := range c.Of {
		if holdsAt(x, f) {
			holds++
		}
	}
	switch c.Op {
	case 2:
		return f.Room == c.N
	case 3:
		return f.Days < c.N
	case 4:
		return !(f.Days < c.N)
	case 5:
		return int(f.To) == c.N
	case 6:
		return int(f.From) == c.N
	case 7:
		return f.Claim
	case 8:
		return holds == 0
	case 9:
		return holds == len(c.Of)
	case 10:
		return holds > 0
	}
	return true
}

func goodFact(f api.Fact) bool {
	return in(f.Room, 1, 8) && in(f.Layer, 1, 3) && in(f.Days, 0, 100000) && f.To <= 2 && f.From <= 2
}

func goodWeights(w [3]int) bool {
	return in(w[0], 0, 1000) && in(w[1], 0, 1000) && in(w[2], 0, 1000)
}

var wordForm = regexp.MustCompile(`^[a-z][a-z0-9-]{0,23}$`)

func rulesError(r api.Rules) api.Errno {
	if !goodWeights(r.Weights) {
		return api.ErrArg
	}
	if len(r.List) > 40 {
		return api.ErrLimit
	}
	for i, x := range r.List {
		if !wordForm.MatchString(x.Name) {
			return api.ErrForm
		}
		if slices.ContainsFunc(r.List[:i], func(y api.Rule) bool { return y.Name == x.Name }) {
			return api.ErrTwice
		}
		if !in(x.Rank, 1, 99) || !in(x.Layer, 0, 3) {
			return api.ErrArg
		}
		if e := condError(x.If); e != api.OK {
			return e
		}
	}
	return api.OK
}

// decidersOf returns the indices of the deciding rules.
func decidersOf(r api.Rules, f api.Fact) []int {
	applies := func(x api.Rule) bool { return (x.Layer == 0 || x.Layer == f.Layer) && holdsAt(x.If, f) }
	var list []int
	for i, x := range r.List {
		if applies(x) && !slices.ContainsFunc(r.List, func(y api.Rule) bool { return applies(y) && y.Rank > x.Rank }) {
			list = append(list, i)
		}
	}
	return list
}

// clashOf returns the two rules of a clash, or none.
func clashOf(r api.Rules, f api.Fact) []int {
	list := decidersOf(r, f)
	for _, i := range list {
		if r.List[i].Open != r.List[list[0]].Open {
			return []int{list[0], i}
		}
	}
	return nil
}

// decideOf is what Decide returns.
func decideOf(r api.Rules, f api.Fact) (bool, int, api.Errno) {
	if e := rulesError(r); e != api.OK {
		return false, 0, e
	}
	if !goodFact(f) {
		return false, 0, api.ErrArg
	}
	if clashOf(r, f) != nil {
		return false, 0, api.ErrClash
	}
	list := decidersOf(r, f)
	if len(list) == 0 {
		return false, -1, api.OK
	}
	return r.List[list[0]].Open, list[0], api.OK
}

// rowFacts returns the facts of the day 0, in their order.
func rowFacts() []api.Fact {
	var list []api.Fact
	for room := 1; room <= 8; room++ {
		for layer := 1; layer <= 3; layer++ {
			for to := range 3 {
				for from := range 3 {
					for _, claim := range []bool{false, true} {
						list = append(list, api.Fact{Room: room, Layer: layer, To: uint8(to), From: uint8(from), Claim: claim})
					}
				}
			}
		}
	}
	return list
}

func goodPolicy(p api.Policy) bool {
	facts := rowFacts()
	if !goodWeights(p.Weights) || len(p.Rows) != len(facts) {
		return false
	}
	for i, row := range p.Rows {
		f := facts[i]
		if row.Room != f.Room || row.Layer != f.Layer || row.To != f.To || row.From != f.From || row.Claim != f.Claim {
			return false
		}
		if len(row.Spans) == 0 || row.Spans[0].From != 0 {
			return false
		}
		for j, x := range row.Spans {
			if x.From > 100000 || !in(x.Rule, -1, 39) || x.Rule == -1 && x.Open {
				return false
			}
			if j > 0 && (x.From <= row.Spans[j-1].From || x.Open == row.Spans[j-1].Open && x.Rule == row.Spans[j-1].Rule) {
				return false
			}
		}
	}
	return true
}

// decisionOf is the decision of a valid policy at a valid fact.
func decisionOf(p api.Policy, f api.Fact) (open bool, rule int) {
	day := f.Days
	f.Days = 0
	for _, x := range p.Rows[slices.Index(rowFacts(), f)].Spans {
		if x.From <= day {
			open, rule = x.Open, x.Rule
		}
	}
	return open, rule
}

// thingError is what CheckThing returns.
func thingError(t api.Thing) api.Errno {
	if !in(t.Id, 1, 1000000) || !in(t.Day, 0, 100000) || len(t.Layers) == 0 {
		return api.ErrArg
	}
	pieces := 0
	for _, x := range t.Layers {
		pieces += len(x.Pieces)
	}
	if len(t.Layers) > 3 || pieces > 10 || slices.ContainsFunc(t.Layers, func(x api.Layer) bool { return len(x.Pieces) > 6 || len(x.Goods) > 6 }) {
		return api.ErrLimit
	}
	for _, x := range t.Layers {
		for _, piece := range x.Pieces {
			if !in(int(piece.Kind), 1, 6) {
				return api.ErrArg
			}
			if e := reading.CheckCells(piece.Cells); e != api.OK {
				return e
			}
		}
		for i, y := range x.Goods {
			if !reading.IsName(y.Unit) || !in(y.N, 1, 1000000000) || i > 0 && y.Unit <= x.Goods[i-1].Unit {
				return api.ErrArg
			}
		}
	}
	return api.OK
}

// allLooks returns the looks of a thing, in ascending order.
func allLooks(t api.Thing) []api.Look {
	var looks []api.Look
	for i, x := range t.Layers {
		for j := range x.Pieces {
			looks = append(looks, api.Look{Layer: i + 1, Piece: j})
		}
	}
	return looks
}

func before(a, b api.Look) bool { return a.Layer < b.Layer || a.Layer == b.Layer && a.Piece < b.Piece }

func ascending(looks []api.Look) bool {
	for i := range looks {
		if i > 0 && !before(looks[i-1], looks[i]) {
			return false
		}
	}
	return true
}

// sealError is what CheckSeal returns.
func sealError(t api.Thing, s api.Seal) api.Errno {
	if e := thingError(t); e != api.OK {
		return e
	}
	good := s.Thing == t.Id && in(s.Opened, 0, len(t.Layers))
	for i, x := range s.Rooms {
		good = good && in(x.Room, 1, 8) && (i == 0 || x.Room > s.Rooms[i-1].Room) && len(x.Looks) > 0 && ascending(x.Looks)
		for _, l := range x.Looks {
			good = good && slices.Contains(allLooks(t), l) && l.Layer <= s.Opened
		}
	}
	if !good {
		return api.ErrArg
	}
	return api.OK
}

// depthOf is what Depth returns.
func depthOf(s api.Seal, room int) int {
	depth := 0
	for _, x := range s.Rooms {
		for _, l := range x.Looks {
			if x.Room == room && l.Layer > depth {
				depth = l.Layer
			}
		}
	}
	return depth
}

// intrusionOf is what Intrusion returns.
func intrusionOf(weights [3]int, opened int, looks []api.Look) (int, api.Errno) {
	good, greatest := goodWeights(weights) && in(opened, 0, 3) && ascending(looks), 0
	for _, l := range looks {
		good = good && in(l.Layer, 1, 3) && in(l.Piece, 0, 5)
		greatest = max(greatest, l.Layer)
	}
	if !good {
		return 0, api.ErrArg
	}
	sum := len(looks)
	for i, weight := range weights {
		if i+1 > opened && i+1 <= greatest {
			sum += weight
		}
	}
	return sum, api.OK
}

// shownOf returns what a room was shown by a valid seal.
func shownOf(s api.Seal, room int) []api.Look {
	for _, x := range s.Rooms {
		if x.Room == room {
			return x.Looks
		}
	}
	return nil
}

// commonError is the error that the functions D16 to D19 return first.
func commonError(t api.Thing, s api.Seal, p api.Policy, f api.Fact) api.Errno {
	f.Layer = 1
	if e := sealError(t, s); e != api.OK {
		return e
	}
	if !goodPolicy(p) || !goodFact(f) {
		return api.ErrArg
	}
	return api.OK
}

func openAt(p api.Policy, f api.Fact, layer int) bool {
	f.Layer = layer
	open, _ := decisionOf(p, f)
	return open
}

// mayLook reports whether the room of the fact may look.
func mayLook(s api.Seal, p api.Policy, f api.Fact, l api.Look) bool {
	may := !slices.Contains(shownOf(s, f.Room), l) && openAt(p, f, l.Layer)
	for layer := 1; layer <= 3; layer++ {
		if layer > depthOf(s, f.Room) && layer <= l.Layer {
			may = may && openAt(p, f, layer)
		}
	}
	return may
}

// mayLooks returns all looks at which the room of the fact may look.
func mayLooks(t api.Thing, s api.Seal, p api.Policy, f api.Fact) []api.Look {
	return slices.DeleteFunc(allLooks(t), func(l api.Look) bool { return !mayLook(s, p, f, l) })
}

// withLooks returns a seal in which a room was shown more looks.
func withLooks(s api.Seal, room int, more []api.Look) api.Seal {
	next := api.Seal{Thing: s.Thing, Opened: s.Opened}
	for r := 1; r <= 8; r++ {
		var looks []api.Look
		for layer := 1; layer <= 3; layer++ {
			for piece := range 6 {
				l := api.Look{Layer: layer, Piece: piece}
				if slices.Contains(shownOf(s, r), l) || r == room && slices.Contains(more, l) {
					looks = append(looks, l)
				}
			}
		}
		if len(looks) > 0 {
			next.Rooms = append(next.Rooms, api.Shown{Room: r, Looks: looks})
		}
	}
	return next
}

// takeOf is what Take returns.
func takeOf(t api.Thing, s api.Seal, p api.Policy, f api.Fact, l api.Look) (api.Seal, api.Piece, api.Errno) {
	e := commonError(t, s, p, f)
	switch {
	case e != api.OK:
		return api.Seal{}, api.Piece{}, e
	case !slices.Contains(allLooks(t), l):
		return api.Seal{}, api.Piece{}, api.ErrNone
	case slices.Contains(shownOf(s, f.Room), l):
		return api.Seal{}, api.Piece{}, api.ErrTwice
	case !mayLook(s, p, f, l):
		return api.Seal{}, api.Piece{}, api.ErrSealed
	}
	next := withLooks(s, f.Room, []api.Look{l})
	next.Opened = max(next.Opened, l.Layer)
	return next, t.Layers[l.Layer-1].Pieces[l.Piece], api.OK
}

// handOf is what Hand returns.
func handOf(t api.Thing, s api.Seal, p api.Policy, f api.Fact, from int) (api.Seal, []api.Look, api.Errno) {
	e := commonError(t, s, p, f)
	if e == api.OK && (!in(from, 1, 8) || from == f.Room) {
		e = api.ErrArg
	}
	if e != api.OK {
		return api.Seal{}, nil, e
	}
	looks := slices.DeleteFunc(slices.Clone(shownOf(s, from)), func(l api.Look) bool {
		return slices.Contains(shownOf(s, f.Room), l) || !openAt(p, f, l.Layer)
	})
	return withLooks(s, f.Room, looks), looks, api.OK
}

// passOf is what Pass returns.
func passOf(t api.Thing, s api.Seal, p api.Policy, f api.Fact, from int) (api.Seal, []api.Look, api.Errno) {
	e := commonError(t, s, p, f)
	if e == api.OK && !in(from, 1, 8) {
		e = api.ErrArg
	}
	if e != api.OK {
		return api.Seal{}, nil, e
	}
	looks := slices.DeleteFunc(slices.Clone(shownOf(s, from)), func(l api.Look) bool { return !openAt(p, f, l.Layer) })
	return withLooks(api.Seal{Thing: s.Thing, Opened: s.Opened}, f.Room, looks), looks, api.OK
}

func docketsOf(t api.Thing) [][]uint8 {
	var dockets [][]uint8
	for _, x := range t.Layers {
		docket := []uint8{}
		for _, piece := range x.Pieces {
			docket = append(docket, piece.Kind)
		}
		dockets = append(dockets, docket)
	}
	return dockets
}

// viewOf is what See returns.
func viewOf(t api.Thing, s api.Seal, room int) (api.View, api.Errno) {
	e := sealError(t, s)
	if e == api.OK && !in(room, 1, 8) {
		e = api.ErrArg
	}
	if e != api.OK {
		return api.View{}, e
	}
	v := api.View{Thing: t.Id, Day: t.Day, Opened: depthOf(s, room), Dockets: docketsOf(t)}
	for _, l := range shownOf(s, room) {
		v.Parts = append(v.Parts, api.Part{Look: l, Piece: t.Layers[l.Layer-1].Pieces[l.Piece]})
	}
	return v, api.OK
}

// possible is what Possible returns.
func possible(v api.View, t api.Thing) bool {
	good := thingError(t) == api.OK && t.Id == v.Thing && t.Day == v.Day && show(v.Dockets) == show(docketsOf(t))
	for _, x := range v.Parts {
		good = good && slices.Contains(allLooks(t), x.Look) && show(x.Piece) == show(t.Layers[x.Look.Layer-1].Pieces[x.Look.Piece])
	}
	return good
}

// narrower is what Narrower returns.
func narrower(v, w api.View) bool {
	good := v.Thing == w.Thing && v.Day == w.Day && show(v.Dockets) == show(w.Dockets) && v.Opened >= w.Opened
	for _, x := range w.Parts {
		good = good && slices.ContainsFunc(v.Parts, func(y api.Part) bool { return show(x) == show(y) })
	}
	return good
}

// textOf is what PutThing returns.
func textOf(t api.Thing, s api.Seal, room int) (string, api.Errno) {
	e := sealError(t, s)
	if e == api.OK && !in(room, 1, 8) {
		e = api.ErrArg
	}
	if e != api.OK {
		return "", e
	}
	text := fmt.Sprintf("thing %d %d %d %d\n", t.Id, t.Day, room, s.Opened)
	for _, x := range t.Layers {
		text += "layer\n"
		for _, piece := range x.Pieces {
			cells, _ := reading.Print(piece.Cells)
			text += fmt.Sprintf("piece %d %s\n", piece.Kind, cells)
		}
		for _, y := range x.Goods {
			text += fmt.Sprintf("goods %d %s\n", y.N, y.Unit)
		}
	}
	for _, x := range s.Rooms {
		text += fmt.Sprintf("shown %d", x.Room)
		for _, l := range x.Looks {
			text += fmt.Sprintf(" %d.%d", l.Layer, l.Piece)
		}
		text += "\n"
	}
	if len(text) > 6000 {
		return "", api.ErrLimit
	}
	return text, api.OK
}

// The oracle of Parse finds the first token that cannot stand by a list of what may stand next, and splits a condition at its operators.

type mark struct {
	text string
	at   int
}

var (
	numberForm = regexp.MustCompile(`^(0|[1-9][0-9]{0,8})$`)
	chunks     = regexp.MustCompile(`[a-z0-9-]+|>=|[^ \t]`)
)

// marksOf returns the tokens and no tokens of a line, and its end.
func marksOf(line string) []mark {
	line, _, _ = strings.Cut(line, "#")
	var list []mark
	for _, at := range chunks.FindAllStringIndex(line, -1) {
		list = append(list, mark{line[at[0]:at[1]], at[0]})
	}
	return append(list, mark{"", len(line)})
}

// mayStand reports whether a token may stand for an element of a form: itself, or WORD or NUMBER.
func mayStand(text, element string) bool {
	switch element {
	case "WORD":
		return wordForm.MatchString(text)
	case "NUMBER":
		return numberForm.MatchString(text)
	}
	return text == element
}

// conditionNext returns what may stand behind a token of a condition.
func conditionNext(last string, open int) []string {
	switch last {
	case "if", "and", "or", "not", "(":
		return []string{"not", "(", "always", "room", "days", "claim", "addressees", "senders"}
	case "room", "<", ">=":
		return []string{"NUMBER"}
	case "days":
		return []string{"<", ">="}
	case "addressees", "senders":
		return []string{"none", "one", "many"}
	}
	if open > 0 {
		return []string{"and", "or", ")"}
	}
	return []string{"and", "or", ""}
}

// misplaced returns the index of the first token that cannot stand there; -1 if there is none.
func misplaced(list []mark, first bool) int {
	form := [][]string{{"rule"}, {"WORD"}, {"rank"}, {"NUMBER"}, {":"}, {"open", "leave"}, {"1", "2", "3", "any"}, {"if"}}
	if first {
		form = [][]string{{"weights"}, {"NUMBER"}, {"NUMBER"}, {"NUMBER"}, {""}}
	}
	open := 0
	for i, x := range list {
		var next []string
		if i < len(form) {
			next = form[i]
		} else {
			next = conditionNext(list[i-1].text, open)
		}
		if !slices.ContainsFunc(next, func(element string) bool { return mayStand(x.text, element) }) {
			return i
		}
		switch x.text {
		case "(":
			open++
		case ")":
			open--
		}
	}
	return -1
}

// splitAt returns the parts of a list between the tokens with this text that are in no parentheses.
func splitAt(list []mark, text string) [][]mark {
	parts, open := [][]mark{{}}, 0
	for _, x := range list {
		switch x.text {
		case "(":
			open++
		case ")":
			open--
		}
		if open == 0 && x.text == text {
			parts = append(parts, nil)
		} else {
			parts[len(parts)-1] = append(parts[len(parts)-1], x)
		}
	}
	return parts
}

// conditionOf returns the condition of its tokens.
func conditionOf(list []mark) api.Cond {
	for op, text := range []string{"or", "and"} {
		if parts := splitAt(list, text); len(parts) > 1 {
			c := api.Cond{Op: uint8(10 - op)}
			for _, part := range parts {
				c.Of = append(c.Of, conditionOf(part))
			}
			return c
		}
	}
	last := list[len(list)-1].text
	n, _ := strconv.Atoi(last)
	switch list[0].text {
	case "not":
		return api.Cond{Op: 8, Of: []api.Cond{conditionOf(list[1:])}}
	case "(":
		return conditionOf(list[1 : len(list)-1])
	case "always":
		return api.Cond{Op: 1}
	case "room":
		return api.Cond{Op: 2, N: n}
	case "days":
		return api.Cond{Op: uint8(3 + slices.Index([]string{"<", ">="}, list[1].text)), N: n}
	case "claim":
		return api.Cond{Op: 7}
	}
	return api.Cond{Op: uint8(5 + slices.Index([]string{"addressees", "senders"}, list[0].text)), N: slices.Index([]string{"none", "one", "many"}, last)}
}

// numberError returns ErrArg if the number with an index in a line is out of its range.
func numberError(list []mark, i int) api.Errno {
	if !numberForm.MatchString(list[i].text) || i == 6 {
		return api.OK
	}
	n, _ := strconv.Atoi(list[i].text)
	good := false
	switch list[i-1].text {
	case "rank":
		good = in(n, 1, 99)
	case "room":
		good = in(n, 1, 8)
	case "<", ">=":
		good = in(n, 0, 100000)
	}
	if !good {
		return api.ErrArg
	}
	return api.OK
}

// ruleOf returns the rule of a line that has its form, behind others; or an error and the index of its token.
func ruleOf(list []mark, rules []api.Rule) (api.Rule, api.Errno, int) {
	x := api.Rule{Name: list[1].text, Open: list[5].text == "open", If: conditionOf(list[8 : len(list)-1])}
	x.Rank, _ = strconv.Atoi(list[3].text)
	x.Layer, _ = strconv.Atoi(list[6].text)
	for i := range list {
		e := api.OK
		switch i {
		case 0:
			if len(rules) == 40 {
				e = api.ErrLimit
			}
		case 1:
			if slices.ContainsFunc(rules, func(y api.Rule) bool { return y.Name == x.Name }) {
				e = api.ErrTwice
			}
		case 7:
			if nodes, depth := sizeOf(x.If); nodes > 40 || depth > 6 {
				e = api.ErrLimit
			}
		default:
			e = numberError(list, i)
		}
		if e != api.OK {
			return api.Rule{}, e, i
		}
	}
	return x, api.OK, 0
}

// parseOf is what Parse returns.
func parseOf(src string) (api.Rules, api.Fault) {
	if len(src) > 4000 {
		return api.Rules{}, api.Fault{Err: api.ErrLimit}
	}
	var r api.Rules
	first := true
	for i, line := range strings.Split(src, "\n") {
		list := marksOf(line)
		if len(list) == 1 {
			continue
		}
		if j := misplaced(list, first); j >= 0 {
			return api.Rules{}, api.Fault{Err: api.ErrForm, Line: i + 1, At: list[j].at}
		}
		if first {
			for j := range 3 {
				r.Weights[j], _ = strconv.Atoi(list[j+1].text)
				if r.Weights[j] > 1000 {
					return api.Rules{}, api.Fault{Err: api.ErrArg, Line: i + 1, At: list[j+1].at}
				}
			}
			first = false
			continue
		}
		x, e, j := ruleOf(list, r.List)
		if e != api.OK {
			return api.Rules{}, api.Fault{Err: e, Line: i + 1, At: list[j].at}
		}
		r.List = append(r.List, x)
	}
	if first {
		return api.Rules{}, api.Fault{Err: api.ErrForm, Line: 1}
	}
	return r, api.Fault{}
}

// tokensOf returns the tokens of a condition, with the parentheses that are needed.
func tokensOf(c api.Cond) []string {
	left := []string{"none", "one", "many"}
	switch c.Op {
	case 1:
		return []string{"always"}
	case 2:
		return []string{"room", strconv.Itoa(c.N)}
	case 3:
		return []string{"days", "<", strconv.Itoa(c.N)}
	case 4:
		return []string{"days", ">=", strconv.Itoa(c.N)}
	case 5:
		return []string{"addressees", left[c.N]}
	case 6:
		return []string{"senders", left[c.N]}
	case 7:
		return []string{"claim"}
	}
	var tokens []string
	for i, x := range c.Of {
		switch {
		case c.Op == 8:
			tokens = append(tokens, "not")
		case i > 0 && c.Op == 9:
			tokens = append(tokens, "and")
		case i > 0:
			tokens = append(tokens, "or")
		}
		if x.Op == 10 || x.Op == 9 && (c.Op == 9 || c.Op == 8) {
			tokens = append(append(append(tokens, "("), tokensOf(x)...), ")")
		} else {
			tokens = append(tokens, tokensOf(x)...)
		}
	}
	return tokens
}

// printOf is what Print returns.
func printOf(r api.Rules) string {
	if rulesError(r) != api.OK {
		return ""
	}
	text := fmt.Sprintf("weights %d %d %d\n", r.Weights[0], r.Weights[1], r.Weights[2])
	for _, x := range r.List {
		effect := map[bool]string{true: "open", false: "leave"}[x.Open]
		layer := []string{"any", "1", "2", "3"}[x.Layer]
		tokens := append([]string{"rule", x.Name, "rank", strconv.Itoa(x.Rank), ":", effect, layer, "if"}, tokensOf(x.If)...)
		text += strings.NewReplacer(" :", ":", "( ", "(", " )", ")").Replace(strings.Join(tokens, " ")) + "\n"
	}
	return text
}

// parsed returns the rules of a source without a fault.
func parsed(t *testing.T, src string) api.Rules {
	t.Helper()
	r, fault := seals.Parse(src)
	if fault != (api.Fault{}) {
		t.Fatalf("Parse of %q returns the fault %v", src, fault)
	}
	return r
}

// compiled returns the policy of a source without a clash.
func compiled(t *testing.T, src string) api.Policy {
	t.Helper()
	p, clash, e := seals.Compile(parsed(t, src))
	if e != api.OK || clash != (api.Clash{}) {
		t.Fatalf("Compile of %q returns %v and the error %d", src, clash, e)
	}
	return p
}
