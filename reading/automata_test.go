package reading_test

import (
	"math"
	"math/rand"
	"strings"
	"testing"

	"restante/api"
	"restante/reading"
)

// chain returns an automaton of one path with this many states.
func chain(states int) api.Auto {
	a := api.Auto{States: states, Ends: []api.End{{State: states - 1}}}
	for q := range states - 1 {
		a.Arcs = append(a.Arcs, api.Arc{From: q, To: q + 1, Letter: 'a'})
	}
	return a
}

// wide returns an automaton in which the first states have an arc of each letter to the next one, and which has this many arcs.
func wide(arcs int) api.Auto {
	a := api.Auto{States: 1}
	for i := range arcs {
		from := i / len(letterBytes)
		a.Arcs = append(a.Arcs, api.Arc{From: from, To: from + 1, Letter: letterBytes[i%len(letterBytes)]})
		a.States = from + 2
	}
	a.Ends = []api.End{{State: a.States - 1}}
	return a
}

// letterBytes is all letters in byte order.
const letterBytes = " -0123456789abcdefghijklmnopqrstuvwxyz"

// badAutos is automata with their errors.
func badAutos() map[string]struct {
	a    api.Auto
	want api.Errno
} {
	type row = struct {
		a    api.Auto
		want api.Errno
	}
	arc := func(arcs ...api.Arc) api.Auto { return api.Auto{States: 3, Arcs: arcs} }
	end := func(ends ...api.End) api.Auto { return api.Auto{States: 3, Ends: ends} }
	return map[string]row{
		"zero":                         {api.Auto{}, api.ErrArg},
		"negative states":              {api.Auto{States: -1}, api.ErrArg},
		"least states":                 {api.Auto{States: math.MinInt}, api.ErrArg},
		"401 states":                   {api.Auto{States: api.MaxStates + 1}, api.ErrLimit},
		"greatest states":              {api.Auto{States: math.MaxInt}, api.ErrLimit},
		"4001 arcs":                    {wide(api.MaxArcs + 1), api.ErrLimit},
		"4001 arcs, not valid":         {api.Auto{States: -1, Arcs: make([]api.Arc, api.MaxArcs+1)}, api.ErrLimit},
		"401 ends":                     {api.Auto{States: 1, Ends: make([]api.End, api.MaxStates+1)}, api.ErrLimit},
		"401 ends, no state":           {api.Auto{Ends: make([]api.End, api.MaxStates+1)}, api.ErrLimit},
		"4000 arcs, not valid":         {api.Auto{States: 1, Arcs: make([]api.Arc, api.MaxArcs)}, api.ErrArg},
		"400 ends, not valid":          {api.Auto{States: 1, Ends: make([]api.End, api.MaxStates)}, api.ErrArg},
		"an arc in a state":            {arc(api.Arc{From: 1, To: 1, Letter: 'a'}), api.ErrArg},
		"an arc backwards":             {arc(api.Arc{From: 1, To: 0, Letter: 'a'}), api.ErrArg},
		"an arc from nowhere":          {arc(api.Arc{From: -1, To: 1, Letter: 'a'}), api.ErrArg},
		"an arc from far":              {arc(api.Arc{From: math.MinInt, To: 1, Letter: 'a'}), api.ErrArg},
		"an arc to nowhere":            {arc(api.Arc{From: 1, To: 3, Letter: 'a'}), api.ErrArg},
		"an arc to far":                {arc(api.Arc{From: 1, To: math.MaxInt, Letter: 'a'}), api.ErrArg},
		"an arc of no letter":          {arc(api.Arc{From: 0, To: 1, Letter: 'A'}), api.ErrArg},
		"an arc of the byte 0":         {arc(api.Arc{From: 0, To: 1}), api.ErrArg},
		"an arc of a negative cost":    {arc(api.Arc{From: 0, To: 1, Letter: 'a', Cost: -1}), api.ErrArg},
		"an arc of a great cost":       {arc(api.Arc{From: 0, To: 1, Letter: 'a', Cost: api.MaxCost + 1}), api.ErrArg},
		"an arc of the greatest cost":  {arc(api.Arc{From: 0, To: 1, Letter: 'a', Cost: math.MaxInt}), api.ErrArg},
		"an arc of the least cost":     {arc(api.Arc{From: 0, To: 1, Letter: 'a', Cost: math.MinInt}), api.ErrArg},
		"arcs not sorted by From":      {arc(api.Arc{From: 1, To: 2, Letter: 'a'}, api.Arc{From: 0, To: 1, Letter: 'b'}), api.ErrArg},
		"arcs not sorted by To":        {arc(api.Arc{From: 0, To: 2, Letter: 'a'}, api.Arc{From: 0, To: 1, Letter: 'b'}), api.ErrArg},
		"arcs not sorted by Letter":    {arc(api.Arc{From: 0, To: 2, Letter: 'b'}, api.Arc{From: 0, To: 2, Letter: 'a'}), api.ErrArg},
		"an arc twice":                 {arc(api.Arc{From: 0, To: 2, Letter: 'b'}, api.Arc{From: 0, To: 2, Letter: 'b'}), api.ErrArg},
		"an arc twice, with two costs": {arc(api.Arc{From: 0, To: 2, Letter: 'b'}, api.Arc{From: 0, To: 2, Letter: 'b', Cost: 1}), api.ErrArg},
		"an end of no state":           {end(api.End{State: 3}), api.ErrArg},
		"an end of a negative state":   {end(api.End{State: -1}), api.ErrArg},
		"an end of the greatest state": {end(api.End{State: math.MaxInt}), api.ErrArg},
		"an end of a negative cost":    {end(api.End{State: 1, Cost: -1}), api.ErrArg},
		"an end of a great cost":       {end(api.End{State: 1, Cost: api.MaxCost + 1}), api.ErrArg},
		"an end of the least cost":     {end(api.End{State: 1, Cost: math.MinInt}), api.ErrArg},
		"ends not sorted":              {end(api.End{State: 1}, api.End{State: 0}), api.ErrArg},
		"an end twice":                 {end(api.End{State: 1}, api.End{State: 1, Cost: 1}), api.ErrArg},
	}
}

// A6.
func TestCheck(t *testing.T) {
	full := chain(api.MaxStates)
	full.Ends = nil
	for q := range api.MaxStates {
		full.Ends = append(full.Ends, api.End{State: q, Cost: api.MaxCost})
	}
	for name, a := range map[string]api.Auto{
		"one state": {States: 1}, "400 states, 400 ends": full, "4000 arcs": wide(api.MaxArcs),
		"greatest costs": {States: 2, Arcs: []api.Arc{{From: 0, To: 1, Letter: 'a', Cost: api.MaxCost}}, Ends: []api.End{{State: 1, Cost: api.MaxCost}}},
		"two arcs with one letter": {States: 3, Arcs: []api.Arc{{From: 0, To: 1, Letter: 'z'}, {From: 0, To: 2, Letter: 'a'},
			{From: 0, To: 2, Letter: 'z'}, {From: 1, To: 2, Letter: ' '}}},
	} {
		if e := reading.Check(a); e != api.OK {
			t.Errorf("%s: error %d", name, e)
		}
	}
	for name, row := range badAutos() {
		if e := reading.Check(row.a); e != row.want {
			t.Errorf("%s: error %d; want %d", name, e, row.want)
		}
	}
}

// A7.
func TestCost(t *testing.T) {
	r := rand.New(rand.NewSource(4))
	for range 500 {
		a := smallAuto(r)
		l := accepted(a)
		for _, s := range append(words("ab-", 4), "A", "aaaaaaaaaa", "\x00", strings.Repeat("a", 100000)) {
			want, wanted := l[s]
			if cost, is := reading.Cost(a, s); cost != want || is != wanted {
				t.Fatalf("Cost(%v, %q) = %d, %v; want %d, %v", a, s, cost, is, want, wanted)
			}
		}
		for s, want := range l {
			if cost, is := reading.Cost(a, s); cost != want || !is {
				t.Fatalf("Cost(%v, %q) = %d, %v; want %d", a, s, cost, is, want)
			}
		}
	}
	far := chain(3)
	far.Arcs[0].Cost, far.Arcs[1].Cost, far.Ends[0].Cost = api.MaxCost, api.MaxCost, api.MaxCost
	if cost, is := reading.Cost(far, "aa"); cost != 3*api.MaxCost || !is {
		t.Errorf("Cost of the greatest costs: %d, %v", cost, is)
	}
	for name, row := range badAutos() {
		if cost, is := reading.Cost(row.a, ""); cost != 0 || is {
			t.Errorf("%s: Cost: %d, %v", name, cost, is)
		}
	}
}

// words returns all strings of some letters up to a length.
func words(letters string, longest int) []string {
	list := []string{""}
	for begin := 0; longest > 0; longest-- {
		end := len(list)
		for _, s := range list[begin:end] {
			for i := range len(letters) {
				list = append(list, s+letters[i:i+1])
			}
		}
		begin = end
	}
	return list
}

// A8.
func TestWord(t *testing.T) {
	for _, s := range []string{"", "a", "ab", " a ", "aaa", "-0z", strings.Repeat("a", api.MaxText)} {
		for _, cost := range []int{0, 1, api.MaxCost} {
			a := word(t, s, cost)
			wantNormal(t, "Word "+s, a, language{s: cost})
			if !same(normal(t, a), a) {
				t.Errorf("Normal(Word(%q, %d)) differs", s, cost)
			}
		}
	}
	long := strings.Repeat("a", api.MaxText+1)
	for _, row := range []struct {
		s    string
		cost int
		want api.Errno
	}{
		{long, 0, api.ErrLimit}, {long, -1, api.ErrLimit}, {strings.Repeat("A", api.MaxText+1), 0, api.ErrLimit},
		{"A", 0, api.ErrArg}, {"a\x00", 0, api.ErrArg}, {"ab_", -1, api.ErrArg}, {"a", -1, api.ErrArg}, {"", -1, api.ErrArg},
		{"a", api.MaxCost + 1, api.ErrArg}, {"a", math.MaxInt, api.ErrArg}, {"a", math.MinInt, api.ErrArg}, {strings.Repeat("A", api.MaxText), 0, api.ErrArg},
	} {
		if a, e := reading.Word(row.s, row.cost); !isZero(a) || e != row.want {
			t.Errorf("Word(%.10q, %d): %v, error %d; want %d", row.s, row.cost, a, e, row.want)
		}
	}
}

// A9, A11, P1.4, T1.
func TestNormal(t *testing.T) {
	r := rand.New(rand.NewSource(5))
	empty := 0
	for range 3000 {
		a := smallAuto(r)
		l := accepted(a)
		if len(l) == 0 {
			empty++
		}
		n := normal(t, a)
		wantNormal(t, "Normal", n, l)
		if !same(normal(t, n), n) {
			t.Fatalf("Normal of the normal form %v is another one", n)
		}
		p := must[api.Auto](t, "Plain")(reading.Plain(a))
		wantNormal(t, "Plain", p, plainOf(l))
	}
	if empty == 0 {
		t.Error("no automaton was empty")
	}
	for range 60 {
		a := randomAuto(r, 14, 40, 4, "abc")
		wantNormal(t, "Normal", normal(t, a), accepted(a))
	}
}

// A9: the numbers of the states.
func TestNumbersOfStates(t *testing.T) {
	// The state behind b and that behind a have equally long completions; that behind ac is behind a shorter string than ab.
	a := api.Auto{States: 7, Arcs: []api.Arc{
		{From: 0, To: 1, Letter: 'b'}, {From: 0, To: 2, Letter: 'a'}, {From: 1, To: 5, Letter: 'x'}, {From: 2, To: 3, Letter: 'c'}, {From: 2, To: 4, Letter: 'b'},
		{From: 3, To: 5, Letter: 'y'}, {From: 3, To: 5, Letter: 'z'}, {From: 4, To: 5, Letter: 'y'}, {From: 5, To: 6, Letter: '-'}},
		Ends: []api.End{{State: 6}}}
	want := api.Auto{States: 7, Arcs: []api.Arc{
		{From: 0, To: 1, Letter: 'a'}, {From: 0, To: 4, Letter: 'b'}, {From: 1, To: 2, Letter: 'b'}, {From: 1, To: 3, Letter: 'c'}, {From: 2, To: 5, Letter: 'y'},
		{From: 3, To: 5, Letter: 'y'}, {From: 3, To: 5, Letter: 'z'}, {From: 4, To: 5, Letter: 'x'}, {From: 5, To: 6, Letter: '-'}},
		Ends: []api.End{{State: 6}}}
	if n := normal(t, a); !same(n, want) {
		t.Errorf("Normal: %v; want %v", n, want)
	}
}

// P1.4: equivalent automata have one normal form, others have others (A17 too).
func TestOneNormalForm(t *testing.T) {
	r := rand.New(rand.NewSource(6))
	equal := 0
	for range 4000 {
		a, b := randomAuto(r, 3, 3, 2, "a"), randomAuto(r, 3, 3, 2, "a")
		l, m := accepted(a), accepted(b)
		alike := len(l) == len(m) && len(withoutOf(l, m)) == 0
		for s := range l {
			alike = alike && l[s] == m[s]
		}
		if same(normal(t, a), normal(t, b)) != alike {
			t.Fatalf("Normal of %v and %v: alike is %v", a, b, alike)
		}
		if is, e := reading.Same(a, b); is != alike || e != api.OK {
			t.Fatalf("Same(%v, %v) = %v, error %d", a, b, is, e)
		}
		if alike {
			equal++
		}
	}
	if equal < 100 {
		t.Errorf("only %d pairs were equivalent", equal)
	}
}

// A10, T1.
func TestOf(t *testing.T) {
	wantNormal(t, "Of nothing", must[api.Auto](t, "Of")(reading.Of(nil)), language{"": 0})
	wantNormal(t, "Of ()", of(t, "()"), language{"": 0})
	wantNormal(t, "Of (:7)", of(t, "(:7)"), language{"": 7})
	wantNormal(t, "Of the example", of(t, "c(a|e:2)(rn|m:1|:9)"), language{"carn": 0, "cam": 1, "cern": 2, "cem": 3, "ca": 9, "ce": 11})
	wantNormal(t, "Of two ways to say one string", of(t, "(ab:5|a:1)(b:1|:9)"), language{"ab": 2, "abb": 6, "a": 10})
	r := rand.New(rand.NewSource(7))
	for range 1500 {
		cells := randomCells(r, 4)
		a := must[api.Auto](t, "Of")(reading.Of(cells))
		wantNormal(t, "Of", a, spelled(cells))
	}
	long := must[api.Auto](t, "Of")(reading.Of(parse(t, strings.Repeat("(abc:1000)", api.MaxCells))))
	wantNormal(t, "Of the longest text", long, language{strings.Repeat("abc", api.MaxCells): api.MaxCells * api.MaxAlt})
}

// A6 to A22: each function that has an automaton returns its error and nothing else.
func TestErrorsOfAutomata(t *testing.T) {
	good := word(t, "a", 1)
	big := api.Auto{States: api.MaxStates + 1}
	for name, row := range badAutos() {
		for fn, call := range callsOfOne() {
			if zero, e := call(row.a); !zero || e != row.want {
				t.Errorf("%s: %s: zero %v, error %d; want error %d", name, fn, zero, e, row.want)
			}
		}
		for fn, call := range callsOfTwo() {
			other := api.Auto{}
			if row.want == api.ErrArg {
				other = big
			}
			for i, pair := range [][2]api.Auto{{row.a, good}, {good, row.a}, {row.a, other}} {
				if zero, e := call(pair[0], pair[1]); !zero || e != row.want {
					t.Errorf("%s: %s of pair %d: zero %v, error %d; want error %d", name, fn, i, zero, e, row.want)
				}
			}
		}
		if r, is := reading.Least(row.a); r != (api.Reading{}) || is {
			t.Errorf("%s: Least: %v, %v", name, r, is)
		}
	}
}

// callsOfOne is the functions of one automaton that return an error; each reports whether its other results are zero.
func callsOfOne() map[string]func(a api.Auto) (bool, api.Errno) {
	return map[string]func(a api.Auto) (bool, api.Errno){
		"Normal": func(a api.Auto) (bool, api.Errno) { x, e := reading.Normal(a); return isZero(x), e },
		"Plain":  func(a api.Auto) (bool, api.Errno) { x, e := reading.Plain(a); return isZero(x), e },
		"Within": func(a api.Auto) (bool, api.Errno) { x, e := reading.Within(a, 5); return isZero(x), e },
		"Count":  func(a api.Auto) (bool, api.Errno) { n, e := reading.Count(a); return n == 0, e },
		"Best":   func(a api.Auto) (bool, api.Errno) { l, e := reading.Best(a, 5); return len(l) == 0, e },
	}
}

// callsOfTwo is the functions of two automata.
func callsOfTwo() map[string]func(a, b api.Auto) (bool, api.Errno) {
	return map[string]func(a, b api.Auto) (bool, api.Errno){
		"Union":   func(a, b api.Auto) (bool, api.Errno) { x, e := reading.Union(a, b); return isZero(x), e },
		"Both":    func(a, b api.Auto) (bool, api.Errno) { x, e := reading.Both(a, b); return isZero(x), e },
		"Without": func(a, b api.Auto) (bool, api.Errno) { x, e := reading.Without(a, b); return isZero(x), e },
		"Join":    func(a, b api.Auto) (bool, api.Errno) { x, e := reading.Join(a, b); return isZero(x), e },
		"Same":    func(a, b api.Auto) (bool, api.Errno) { is, e := reading.Same(a, b); return !is, e },
		"Inside":  func(a, b api.Auto) (bool, api.Errno) { s, is, e := reading.Inside(a, b); return s == "" && !is, e },
		"Meet": func(a, b api.Auto) (bool, api.Errno) {
			r, is, e := reading.Meet(a, b)
			return r == (api.Reading{}) && !is, e
		},
	}
}

// R1: no field of an automaton makes a function panic.
func TestAnyFields(t *testing.T) {
	r := rand.New(rand.NewSource(8))
	odd := []int{math.MinInt, -1, 0, 0, 1, 1, 2, 2, 3, 3, api.MaxStates, api.MaxStates + 1, api.MaxCost, api.MaxCost + 1, math.MaxInt}
	pick := func() int { return odd[r.Intn(len(odd))] }
	random := func() api.Auto {
		a := api.Auto{States: pick()}
		for range r.Intn(3) {
			a.Arcs = append(a.Arcs, api.Arc{From: pick(), To: pick(), Letter: []byte{'a', 0, 255, ' '}[r.Intn(4)], Cost: pick()})
		}
		for range r.Intn(3) {
			a.Ends = append(a.Ends, api.End{State: pick(), Cost: pick()})
		}
		return a
	}
	for range 20000 {
		a, b := random(), random()
		want := reading.Check(a)
		for name, call := range callsOfOne() {
			if _, e := call(a); want != api.OK && e != want {
				t.Fatalf("%s(%v): error %d; want %d", name, a, e, want)
			}
		}
		for name, call := range callsOfTwo() {
			if _, e := call(a, b); want != api.OK && e != want {
				t.Fatalf("%s(%v, %v): error %d; want %d", name, a, b, e, want)
			}
		}
		reading.Cost(a, "a")
		reading.Least(a)
		reading.Within(a, pick())
		reading.Best(a, pick())
	}
}

// R3: no result shares memory with an argument, and no argument is changed.
func TestAutomataAreNew(t *testing.T) {
	a := normal(t, of(t, "c(a|e:2)(rn|m:1|:9)"))
	b := normal(t, of(t, "(c|d)(a|o)(m|:3)"))
	x, y := copyOf(a), copyOf(b)
	spoil := func(z api.Auto, e api.Errno) {
		for i := range z.Arcs {
			z.Arcs[i].Cost = 99
		}
		for i := range z.Ends {
			z.Ends[i].Cost = 99
		}
	}
	for range 2 {
		spoil(reading.Normal(a))
		spoil(reading.Plain(a))
		spoil(reading.Union(a, b))
		spoil(reading.Union(a, a))
		spoil(reading.Both(a, b))
		spoil(reading.Without(a, b))
		spoil(reading.Join(a, b))
		spoil(reading.Join(a, word(t, "", 0)))
		spoil(reading.Within(a, 100))
		reading.Meet(a, b)
		reading.Best(a, 100)
		reading.Inside(a, b)
		reading.Least(a)
		if !same(a, x) || !same(b, y) {
			t.Fatalf("an argument changed: %v, %v", a, b)
		}
	}
}
