package court_test

import (
	"fmt"
	"math"
	"math/rand"
	"slices"
	"strings"
	"testing"

	"restante/api"
	"restante/court"
	"restante/reading"
)

// isWellFormed reports what all functions that take a record say of it; it fails if they do not agree.
func isWellFormed(t *testing.T, r api.Record) bool {
	t.Helper()
	text, e := court.PutRecord(r)
	ok := e == api.OK
	if !ok {
		fails(t, "PutRecord", e, api.ErrArg, text)
	}
	what := fmt.Sprintf("a record %+v", r)
	same(t, what+": Fields", len(court.Fields(r)) > 0, ok)
	same(t, what+": Digest", court.Digest(r) != api.Hash{}, ok)
	x, e := court.Redact(r, nil)
	if !ok {
		fails(t, what+": Redact", e, api.ErrArg, x)
	}
	same(t, what+": Redact", e == api.OK, ok)
	l := append(make([][]api.Record, max(0, min(r.Office, 7))), []api.Record{r})
	if _, e := court.Join(l); r.Seq == 0 {
		same(t, what+": Join", e == api.OK, ok)
	}
	return ok
}

// Records: which are well-formed; of each kind, with each field at its limits and beyond.
func TestWellFormed(t *testing.T) {
	count := map[string]int{}
	eachRecord(func(r *rand.Rand, x api.Record) {
		same(t, fmt.Sprintf("a right record %+v", x), isWellFormed(t, x), true)
		same(t, "the oracle", wellFormed(x), true)
		for range 20 {
			y := spoilt(r, x)
			same(t, fmt.Sprintf("a record %+v", y), isWellFormed(t, y), wellFormed(y))
			count[fmt.Sprint(wellFormed(y))]++
		}
	})
	if count["true"] < 1000 || count["false"] < 1000 {
		t.Error("too few records of one sort:", count)
	}
}

// Records: the table, field by field: each number at its limits, and one beyond.
func TestLimitsOfFields(t *testing.T) {
	t.Parallel()
	r := rand.New(rand.NewSource(2))
	for kind := uint8(0); kind <= 17; kind++ {
		for range 4 {
			x := randomRecord(r, kind)
			for _, field := range []struct {
				what string
				at   *int
			}{{"Seq", &x.Seq}, {"Day", &x.Day}, {"Office", &x.Office}, {"Salt", &x.Salt}, {"Room", &x.Room}, {"Thing", &x.Thing}, {"Person", &x.Person}, {"Place", &x.Place}, {"N", &x.N},
				{"Fact.Room", &x.Fact.Room}, {"Fact.Layer", &x.Fact.Layer}, {"Fact.Days", &x.Fact.Days}, {"Look.Layer", &x.Look.Layer}, {"Look.Piece", &x.Look.Piece}} {
				old := *field.at
				for _, n := range append(extremes(), 3999, 999999, math.MinInt32) {
					*field.at = n
					same(t, fmt.Sprint(field.what, " in ", x), isWellFormed(t, x), wellFormed(x))
				}
				*field.at = old
			}
			for _, at := range []*uint8{&x.Kind, &x.Verdict, &x.Fact.To, &x.Fact.From, &x.Piece.Kind} {
				old := *at
				for n := range 256 {
					*at = uint8(n)
					same(t, fmt.Sprint("a number of 8 bits in ", x), isWellFormed(t, x), wellFormed(x))
				}
				*at = old
			}
			x.Fact.Claim = !x.Fact.Claim
			same(t, fmt.Sprint("Claim in ", x), isWellFormed(t, x), wellFormed(x))
		}
	}
}

// Records: dockets, goods, pieces and texts at their limits.
func TestLimitsOfTexts(t *testing.T) {
	arrive := api.Record{Kind: api.RecArrive, Room: 1, Thing: 1}
	for _, x := range []struct {
		text string
		ok   bool
	}{{"/", true}, {"1/", true}, {"", false}, {"1", false}, {"1/2", false}, {"123456/", true}, {"1234561/", false}, {"0/", false}, {"7/", false}, {"1 /", false}, {"///", true}, {"////", false},
		{"123456/1234/", true}, {"123456/1234/1/", false}, {"123456/12345/", false}, {"111/111/1111/", true}, {"1x2/", false}, {"1/\n", false}} {
		arrive.Text = x.text
		same(t, "the docket text "+x.text, isWellFormed(t, arrive), x.ok)
	}
	for _, x := range []struct {
		verdict    uint8
		most, each int
	}{{api.WhyDeposit, 6, 1000000000}, {api.WhyPay, 16, 2000000000000}, {api.WhyRefund, 16, 2000000000000}} {
		money := api.Record{Kind: api.RecMoney, Room: 1, Thing: 1, Verdict: x.verdict, N: 1}
		if x.verdict != api.WhyDeposit {
			money.N, money.Person = 0, 1
		}
		for i := range x.most + 1 {
			same(t, "goods", isWellFormed(t, money), true)
			money.Goods = append(money.Goods, api.Amount{Unit: string(rune('a' + i)), N: x.each})
		}
		same(t, "too many goods", isWellFormed(t, money), false)
		for _, n := range []int{-1, 0, x.each + 1} {
			money.Goods = []api.Amount{{Unit: "a", N: n}}
			same(t, "a number of goods", isWellFormed(t, money), false)
		}
		for _, units := range [][]string{{"a", "a"}, {"b", "a"}, {""}, {" a"}, {strings.Repeat("a", 25)}, {"A"}} {
			money.Goods = nil
			for _, unit := range units {
				money.Goods = append(money.Goods, api.Amount{Unit: unit, N: 1})
			}
			same(t, fmt.Sprint("units ", units), isWellFormed(t, money), false)
		}
	}
	look := api.Record{Kind: api.RecLook, Room: 1, Thing: 1, Fact: api.Fact{Room: 1, Layer: 1}, Look: api.Look{Layer: 1}, Piece: api.Piece{Kind: 1}}
	for n, ok := range map[int]bool{0: true, 32: true, 33: false} {
		look.Piece.Cells = slices.Repeat([]api.Cell{{Alts: []api.Alt{{Letters: "a"}}}}, n)
		same(t, "cells", isWellFormed(t, look), ok)
	}
	look.Piece.Cells = []api.Cell{{Alts: []api.Alt{{Letters: "a", Cost: 1001}}}}
	same(t, "a cost", isWellFormed(t, look), false)
	for _, kind := range []uint8{api.RecRules, api.RecBook} {
		same(t, "4000 bytes", isWellFormed(t, api.Record{Kind: kind, Text: strings.Repeat("\xff", 4000)}), true)
		same(t, "4001 bytes", isWellFormed(t, api.Record{Kind: kind, Text: strings.Repeat("a", 4001)}), false)
	}
	if _, e := court.PutRecord(api.Record{}); e != api.ErrArg {
		t.Error("a zero record has a text")
	}
}

// H2, P8.7: the texts of records, and which strings are some.
func TestTextsOfRecords(t *testing.T) {
	eachRecord(func(r *rand.Rand, x api.Record) {
		text, e := court.PutRecord(x)
		same(t, "PutRecord", e, api.OK)
		same(t, "PutRecord", text, plainText(x))
		back, e := court.GetRecord(text)
		same(t, "GetRecord", e, api.OK)
		equal(t, "GetRecord", back, x)
		for range 20 {
			checkText(t, spoiltText(r, text))
			if y := spoilt(r, x); len(y.Goods) < 20 {
				checkText(t, plainText(y))
			}
		}
	})
	for _, s := range []string{"", "\n", "record", "record \n", "record 0 0 0 0 11 0 0 0 0 0 0\n", strings.Repeat("record ", 2000), "\xff"} {
		checkText(t, s)
	}
}

// checkText fails unless GetRecord returns the record of a string if and only if there is one.
func checkText(t *testing.T, s string) {
	t.Helper()
	x, e := court.GetRecord(s)
	if e != api.OK {
		fails(t, "GetRecord of "+s, e, api.ErrForm, x)
		if y, ok := readText(s); ok {
			t.Fatalf("GetRecord refuses the text of %+v", y)
		}
		return
	}
	same(t, "GetRecord of "+s, wellFormed(x), true)
	same(t, "GetRecord", plainText(x), s)
}

// readText reads a text leniently, and returns the record only if it has this text.
func readText(s string) (api.Record, bool) {
	var x api.Record
	var claim int
	var cells string
	lines := strings.SplitN(s, "\n", 5)
	if len(lines) < 5 {
		return x, false
	}
	fmt.Sscanf(lines[0], "record %d %d %d %d %d %d %d %d %d %d %d", &x.Seq, &x.Day, &x.Office, &x.Room, &x.Kind, &x.Thing, &x.Person, &x.Place, &x.N, &x.Verdict, &x.Salt)
	fmt.Sscanf(lines[1], "fact %d %d %d %d %d %d", &x.Fact.Room, &x.Fact.Layer, &x.Fact.Days, &x.Fact.To, &x.Fact.From, &claim)
	x.Fact.Claim = claim == 1
	fmt.Sscanf(lines[2], "look %d %d", &x.Look.Layer, &x.Look.Piece)
	fmt.Sscanf(lines[3], "piece %d", &x.Piece.Kind)
	if words := strings.SplitN(lines[3], " ", 3); len(words) == 3 {
		cells = words[2]
	}
	x.Piece.Cells, _ = reading.Parse(cells)
	rest := lines[4]
	for strings.HasPrefix(rest, "goods ") {
		line, after, _ := strings.Cut(rest, "\n")
		var a api.Amount
		fmt.Sscanf(line, "goods %d", &a.N)
		if words := strings.SplitN(line, " ", 3); len(words) == 3 {
			a.Unit = words[2]
		}
		x.Goods, rest = append(x.Goods, a), after
	}
	_, x.Text, _ = strings.Cut(rest, "\n")
	return x, wellFormed(x) && plainText(x) == s
}

// H5, P8.7: the fields of records, and which lists are some.
func TestFields(t *testing.T) {
	t.Parallel()
	eachRecord(func(r *rand.Rand, x api.Record) {
		fields := court.Fields(x)
		equal(t, "Fields", fmt.Sprintf("%s", fields), fmt.Sprintf("%s", plainFields(x)))
		same(t, "the number of fields", len(fields), 15)
		back, e := court.Read(fields)
		same(t, "Read", e, api.OK)
		want := x
		want.Salt = 0
		equal(t, "Read", back, want)
		for range 20 {
			list := copied(fields)
			i := r.Intn(15)
			list[i] = []byte(spoiltText(r, string(list[i])))
			checkFields(t, list)
			checkFields(t, spoilt(r, fields))
		}
	})
	for _, l := range [][][]byte{nil, {}, make([][]byte, 15), make([][]byte, 14), make([][]byte, 16)} {
		x, e := court.Read(l)
		fails(t, "Read", e, api.ErrForm, x)
	}
}

// checkFields fails unless Read returns the record of a list if and only if there is one.
func checkFields(t *testing.T, l [][]byte) {
	t.Helper()
	x, e := court.Read(l)
	if e == api.OK {
		same(t, "Read returns a record", wellFormed(x) && x.Salt == 0, true)
		same(t, "Read", fmt.Sprintf("%q", plainFields(x)), fmt.Sprintf("%q", l))
		return
	}
	fails(t, "Read", e, api.ErrForm, x)
	if len(l) != 15 {
		return
	}
	s := make([]string, 15)
	for i, b := range l {
		s[i] = string(b)
	}
	goods := ""
	for _, line := range strings.SplitAfter(s[12], "\n") {
		if line != "" {
			goods += "goods " + line
		}
	}
	text := fmt.Sprintf("record %s %s 0\nfact %s\nlook %s\npiece %s\n%stext %d\n%s", strings.Join(s[:9], " "), s[13], s[9], s[10], s[11], goods, len(s[14]), s[14])
	if x, ok := readText(text); ok && fmt.Sprintf("%q", plainFields(x)) == fmt.Sprintf("%q", l) {
		t.Fatalf("Read refuses the fields of %+v", x)
	}
}
