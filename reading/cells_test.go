package reading_test

import (
	"math"
	"math/rand"
	"reflect"
	"slices"
	"strconv"
	"strings"
	"testing"

	"restante/api"
	"restante/reading"
)

const alphabet = "abcdefghijklmnopqrstuvwxyz0123456789 -"

// A1.
func TestLetters(t *testing.T) {
	for c := range 256 {
		if got, want := reading.IsLetter(byte(c)), strings.IndexByte(alphabet, byte(c)) >= 0; got != want {
			t.Errorf("IsLetter(%d) = %v", c, got)
		}
	}
}

// A1.
func TestIsName(t *testing.T) {
	for s, want := range map[string]bool{
		"": false, "a": true, "0": true, "-": true, " ": false, " a": false, "a ": false, "a b": true, "a  b": true, "-a-": true,
		"A": false, "a_b": false, "a\n": false, "ä": false, "a\x00": false, "a\xff": false,
		strings.Repeat("z", api.MaxName): true, strings.Repeat("z", api.MaxName+1): false,
		"a" + strings.Repeat(" ", api.MaxName-2) + "a": true,
	} {
		if got := reading.IsName(s); got != want {
			t.Errorf("IsName(%q) = %v", s, got)
		}
	}
}

func cell(alts ...api.Alt) api.Cell { return api.Cell{Alts: alts} }

// alts returns n alternatives that differ.
func alts(n int) []api.Alt {
	var list []api.Alt
	for i := range n {
		list = append(list, api.Alt{Letters: alphabet[i : i+1], Cost: i})
	}
	return list
}

// badCells is lists of cells with their errors.
func badCells() map[string]struct {
	cells []api.Cell
	want  api.Errno
} {
	a := cell(api.Alt{Letters: "a"})
	type row = struct {
		cells []api.Cell
		want  api.Errno
	}
	return map[string]row{
		"too many":                   {slices.Repeat([]api.Cell{a}, api.MaxCells+1), api.ErrLimit},
		"too many, all not valid":    {make([]api.Cell, api.MaxCells+1), api.ErrLimit},
		"no alternatives":            {[]api.Cell{a, {}}, api.ErrArg},
		"9 alternatives":             {[]api.Cell{{Alts: alts(api.MaxAlts + 1)}}, api.ErrArg},
		"the same letters":           {[]api.Cell{cell(api.Alt{Letters: "a"}, api.Alt{Letters: "b"}, api.Alt{Letters: "a", Cost: 1})}, api.ErrArg},
		"no letters twice":           {[]api.Cell{cell(api.Alt{}, api.Alt{Cost: 1})}, api.ErrArg},
		"4 letters":                  {[]api.Cell{cell(api.Alt{Letters: "abcd"})}, api.ErrArg},
		"no letter":                  {[]api.Cell{cell(api.Alt{Letters: "aB"})}, api.ErrArg},
		"a byte of a mark":           {[]api.Cell{cell(api.Alt{Letters: "("})}, api.ErrArg},
		"a negative cost":            {[]api.Cell{cell(api.Alt{Letters: "a", Cost: -1})}, api.ErrArg},
		"a cost beyond the limit":    {[]api.Cell{cell(api.Alt{Letters: "a", Cost: api.MaxAlt + 1})}, api.ErrArg},
		"the greatest cost of all":   {[]api.Cell{cell(api.Alt{Letters: "a", Cost: math.MaxInt})}, api.ErrArg},
		"the least cost of all":      {[]api.Cell{cell(api.Alt{Letters: "a", Cost: math.MinInt})}, api.ErrArg},
		"the last one not valid":     {append(slices.Repeat([]api.Cell{a}, api.MaxCells-1), api.Cell{}), api.ErrArg},
		"a long alternative of none": {[]api.Cell{cell(api.Alt{Letters: strings.Repeat("a", 5000)})}, api.ErrArg},
	}
}

// A2, and the errors of A3 and A10.
func TestCheckCells(t *testing.T) {
	good := [][]api.Cell{
		nil, {}, slices.Repeat([]api.Cell{cell(api.Alt{})}, api.MaxCells), {{Alts: alts(api.MaxAlts)}},
		{cell(api.Alt{Letters: "abc", Cost: api.MaxAlt})}, {cell(api.Alt{Letters: " - "}, api.Alt{})},
	}
	for _, cells := range good {
		if e := reading.CheckCells(cells); e != api.OK {
			t.Errorf("CheckCells(%v): error %d", cells, e)
		}
	}
	for name, row := range badCells() {
		if e := reading.CheckCells(row.cells); e != row.want {
			t.Errorf("%s: CheckCells: error %d", name, e)
		}
		if s, e := reading.Print(row.cells); s != "" || e != row.want {
			t.Errorf("%s: Print: %q, error %d", name, s, e)
		}
		if a, e := reading.Of(row.cells); !isZero(a) || e != row.want {
			t.Errorf("%s: Of: %v, error %d", name, a, e)
		}
	}
}

// A3, A4.
func TestTextOfCells(t *testing.T) {
	for s, want := range map[string][]api.Cell{
		"":       nil,
		"a":      {cell(api.Alt{Letters: "a"})},
		" ":      {cell(api.Alt{Letters: " "})},
		"-0":     {cell(api.Alt{Letters: "-"}), cell(api.Alt{Letters: "0"})},
		"()":     {cell(api.Alt{})},
		"(:1)":   {cell(api.Alt{Cost: 1})},
		"(a:1)":  {cell(api.Alt{Letters: "a", Cost: 1})},
		"(ab)":   {cell(api.Alt{Letters: "ab"})},
		"(|a)":   {cell(api.Alt{}, api.Alt{Letters: "a"})},
		"(a|)":   {cell(api.Alt{Letters: "a"}, api.Alt{})},
		"(a|:9)": {cell(api.Alt{Letters: "a"}, api.Alt{Cost: 9})},
		"(abc:1000|7:10)x": {cell(api.Alt{Letters: "abc", Cost: 1000}, api.Alt{Letters: "7", Cost: 10}),
			cell(api.Alt{Letters: "x"})},
		"c(a|e:2)(rn|m:1|:9)": {cell(api.Alt{Letters: "c"}), cell(api.Alt{Letters: "a"}, api.Alt{Letters: "e", Cost: 2}),
			cell(api.Alt{Letters: "rn"}, api.Alt{Letters: "m", Cost: 1}, api.Alt{Cost: 9})},
		"(a|b|c|d|e|f|g|h)": {cell(api.Alt{Letters: "a"}, api.Alt{Letters: "b"}, api.Alt{Letters: "c"}, api.Alt{Letters: "d"},
			api.Alt{Letters: "e"}, api.Alt{Letters: "f"}, api.Alt{Letters: "g"}, api.Alt{Letters: "h"})},
	} {
		cells, e := reading.Parse(s)
		if e != api.OK || len(cells) != len(want) || len(want) > 0 && !reflect.DeepEqual(cells, want) {
			t.Errorf("Parse(%q): %v, error %d", s, cells, e)
		}
		if text, e := reading.Print(want); text != s || e != api.OK {
			t.Errorf("Print(%v): %q, error %d", want, text, e)
		}
	}
	if cells, e := reading.Parse(strings.Repeat("()", api.MaxCells)); len(cells) != api.MaxCells || e != api.OK {
		t.Errorf("Parse of 32 cells: %d cells, error %d", len(cells), e)
	}
}

// A4.
func TestNoText(t *testing.T) {
	for _, s := range []string{
		"(a)", "( )", "(a:0)", "(ab:0)", "(:0)", "(a:07)", "(a:00)", "(a:)", "(a:+1)", "(a:-1)", "(a: 1)", "(a:1 )", "(a:1a)", "(a:1001)",
		"(a:99999999999999999999)", "(a:18446744073709551617)", "(a:1:1)", "(a|a)", "(|)", "(a:1|a)", "(abcd)", "(", ")", "(a", "(a|", "(a:", "(a:1", "a)",
		"|", ":", "a|b", "a:1", "((a))", "(a|(b))", "(a||b|)", "A", "(A)", "a\n", "\x00", "(\x00)", "ä", "(a|b|c|d|e|f|g|h|i)",
		strings.Repeat("a", api.MaxCells+1), strings.Repeat("(", 100000), strings.Repeat("a", 1<<20), "(" + strings.Repeat("|", 1<<20),
		"(a:" + strings.Repeat("1", 1<<20) + ")",
	} {
		if cells, e := reading.Parse(s); e != api.ErrForm || len(cells) != 0 {
			t.Errorf("Parse(%.40q): %d cells, error %d", s, len(cells), e)
		}
	}
}

// P1.1, A3, A4: a text is accepted exactly if it is the text of the cells that it gives.
func TestPrintAndParse(t *testing.T) {
	r := rand.New(rand.NewSource(1))
	for range 3000 {
		cells := randomCells(r, 5)
		text := must[string](t, "Print")(reading.Print(cells))
		back := must[[]api.Cell](t, "Parse "+text)(reading.Parse(text))
		if len(cells) > 0 && !reflect.DeepEqual(back, cells) {
			t.Fatalf("Parse(Print(%v)) = %v", cells, back)
		}
	}
	accepts := 0
	for range 200000 {
		b := make([]byte, r.Intn(9))
		for i := range b {
			b[i] = "ab(|:10)"[r.Intn(8)]
		}
		cells, e := reading.Parse(string(b))
		if e == api.ErrForm && len(cells) == 0 {
			continue
		}
		accepts++
		if text, f := reading.Print(cells); e != api.OK || f != api.OK || text != string(b) {
			t.Fatalf("Parse(%q): %v, error %d, which is %q, error %d", b, cells, e, text, f)
		}
	}
	if accepts < 1000 {
		t.Fatalf("only %d texts were accepted", accepts)
	}
}

// A5.
func TestNarrowing(t *testing.T) {
	for _, row := range []struct{ worn, clear, want string }{
		{"", "", ""},
		{"a", "a", "a"},
		{"c(a|e:2)(rn|m:1|:9)", "ce(m|x)", "c(e:2)(m:1)"},
		{"(a|b|c)", "(c:1|a:2)", "(a:2|c:1)"},
		{"(a:5|b:1)", "(b:3|a:4)", "(a:5|b:3)"},
		{"(a:5)", "(a|b)", "(a:5)"},
		{"(|a)", "(:7|b)", "(:7)"},
		{"(ab|a)", "(b|ab:1000)", "(ab:1000)"},
	} {
		cells := must[[]api.Cell](t, "Narrow "+row.worn)(reading.Narrow(parse(t, row.worn), parse(t, row.clear)))
		if got := must[string](t, "Print")(reading.Print(cells)); got != row.want {
			t.Errorf("Narrow(%q, %q) = %q; want %q", row.worn, row.clear, got, row.want)
		}
	}
}

// A5: the errors, and their order.
func TestNarrowErrors(t *testing.T) {
	many, bad := make([]api.Cell, api.MaxCells+1), []api.Cell{{}}
	a, b, ab := parse(t, "a"), parse(t, "b"), parse(t, "ab")
	for i, row := range []struct {
		worn, clear []api.Cell
		want        api.Errno
	}{
		{many, bad, api.ErrLimit}, {bad, many, api.ErrArg}, {a, many, api.ErrLimit}, {a, bad, api.ErrArg},
		{a, ab, api.ErrArg}, {ab, a, api.ErrArg}, {nil, a, api.ErrArg}, {a, b, api.ErrState}, {ab, parse(t, "(a|b)a"), api.ErrState},
		{many, many, api.ErrLimit}, {ab, many, api.ErrLimit},
	} {
		if cells, e := reading.Narrow(row.worn, row.clear); len(cells) != 0 || e != row.want {
			t.Errorf("row %d: Narrow: %v, error %d; want error %d", i, cells, e, row.want)
		}
	}
}

// P1.2, P1.3, T1.
func TestNarrowingOnlyNarrows(t *testing.T) {
	r := rand.New(rand.NewSource(2))
	narrowed := 0
	for range 2000 {
		worn, clear := randomCells(r, 4), randomCells(r, 4)
		cells, e := reading.Narrow(worn, clear)
		if e != api.OK {
			continue
		}
		narrowed++
		x, y := spelled(worn), spelled(clear)
		for s, cost := range accepted(must[api.Auto](t, "Of")(reading.Of(cells))) {
			first, is := x[s]
			second, also := y[s]
			if !is || !also || cost < first || cost < second {
				t.Fatalf("Narrow(%v, %v) accepts %q with %d", worn, clear, s, cost)
			}
		}
	}
	if narrowed < 100 {
		t.Fatalf("only %d lists were narrowed", narrowed)
	}
}

// P1.3.
func TestTrueReadings(t *testing.T) {
	r := rand.New(rand.NewSource(3))
	for range 1000 {
		cells := randomCells(r, 8)
		a := must[api.Auto](t, "Of")(reading.Of(cells))
		written, most := "", 0
		for _, cell := range cells {
			alt := cell.Alts[r.Intn(len(cell.Alts))]
			written += alt.Letters
			most += alt.Cost
		}
		if cost, is := reading.Cost(a, written); !is || cost > most {
			t.Fatalf("Of(%v) accepts %q: %v with %d; want at most %d", cells, written, is, cost, most)
		}
	}
}

// R3: what Narrow and Parse return shares nothing with arguments or with another result.
func TestCellsAreNew(t *testing.T) {
	worn, clear := parse(t, "(a|b:2)c"), parse(t, "(b|a:1)c")
	cells := must[[]api.Cell](t, "Narrow")(reading.Narrow(worn, clear))
	for i := range cells {
		for j := range cells[i].Alts {
			cells[i].Alts[j] = api.Alt{Letters: "x" + strconv.Itoa(j), Cost: 77}
		}
	}
	if !reflect.DeepEqual(worn, parse(t, "(a|b:2)c")) || !reflect.DeepEqual(clear, parse(t, "(b|a:1)c")) {
		t.Errorf("Narrow shares memory with its arguments: %v, %v", worn, clear)
	}
}
