package court_test

import (
	"bytes"
	"crypto/sha256"
	"fmt"
	"math/rand"
	"regexp"
	"slices"
	"strings"

	"restante/api"
	"restante/reading"
)

// namedFields is the table of records: which fields those of a kind have.
func namedFields() map[uint8]string {
	return map[uint8]string{
		1: "Room, Thing, N, Text", 2: "Room, Thing, Fact, Look, Piece", 3: "Room, Thing, Fact, N", 4: "Room, Thing, Fact, Verdict, Person, Place, Look, N",
		5: "Room, Thing, Person, Place", 6: "Room, Thing, Person, Place", 7: "Room, Thing", 8: "Room, Thing, Place, N", 9: "Room, Thing", 10: "Room, Thing, Verdict, N, Person, Goods",
		11: "Text", 12: "Text", 13: "Thing, Person, N, Verdict", 14: "Thing, N, Verdict", 15: "Room, Thing, Fact, Place, N, Person",
	}
}

func in(n, least, most int) bool { return least <= n && n <= most }

var docketText = regexp.MustCompile(`^([1-6]{0,6}/){1,3}$`)

// wellFormed follows the chapter's section on records.
func wellFormed(r api.Record) bool {
	names, ok := namedFields()[r.Kind]
	if !ok || !in(r.Seq, 0, 1000000) || !in(r.Day, 0, 100000) || !in(r.Office, 0, 7) || !in(r.Salt, 0, 9007199254740992) {
		return false
	}
	for name, right := range map[string][2]bool{
		"Room":    {r.Room == 0, in(r.Room, 1, 8)},
		"Thing":   {r.Thing == 0, in(r.Thing, 1, 1000000)},
		"Person":  {r.Person == 0, true},
		"Place":   {r.Place == 0, true},
		"N":       {r.N == 0, true},
		"Fact":    {r.Fact == api.Fact{}, in(r.Fact.Room, 1, 8) && in(r.Fact.Layer, 1, 3) && in(r.Fact.Days, 0, 100000) && r.Fact.To <= 2 && r.Fact.From <= 2},
		"Look":    {r.Look == api.Look{}, r.Kind == 4 && r.Verdict != 3 || in(r.Look.Layer, 1, 3) && in(r.Look.Piece, 0, 5)},
		"Piece":   {r.Piece.Kind == 0 && len(r.Piece.Cells) == 0, in(int(r.Piece.Kind), 1, 6) && reading.CheckCells(r.Piece.Cells) == api.OK},
		"Goods":   {len(r.Goods) == 0, goodGoods(r)},
		"Verdict": {r.Verdict == 0, true},
		"Text":    {r.Text == "", len(r.Text) <= 4000},
	} {
		if slices.Contains(strings.Split(names, ", "), name) && !right[1] || !slices.Contains(strings.Split(names, ", "), name) && !right[0] {
			return false
		}
	}
	return wellFormedOfKind(r)
}

func goodGoods(r api.Record) bool {
	most, worth := 6, 1000000000
	if r.Verdict == 2 || r.Verdict == 4 {
		most, worth = 16, 2000000000000
	}
	for i, x := range r.Goods {
		if !reading.IsName(x.Unit) || !in(x.N, 1, worth) || i > 0 && r.Goods[i-1].Unit >= x.Unit {
			return false
		}
	}
	return len(r.Goods) <= most
}

// wellFormedOfKind is what the list behind the table says.
func wellFormedOfKind(r api.Record) bool {
	switch r.Kind {
	case 1:
		return in(r.N, 0, 100000) && docketText.MatchString(r.Text) && len(strings.ReplaceAll(r.Text, "/", "")) <= 10
	case 3:
		return in(r.N, 1, 8)
	case 4:
		return in(int(r.Verdict), 1, 5) && in(r.Person, 0, 1000000) && in(r.Place, 0, 1000000) && in(r.N, 0, 4000) && (r.Verdict == 3 || r.Look == api.Look{})
	case 5, 6:
		return in(r.Person, 1, 1000000) && in(r.Place, 1, 1000000)
	case 8:
		return in(r.Place, 0, 7) && r.Place != r.Office && in(r.N, 1, 1000000)
	case 10:
		if r.Verdict == 1 {
			return in(r.N, 1, 3) && r.Person == 0
		}
		return (r.Verdict == 2 || r.Verdict == 4) && r.N == 0 && in(r.Person, 1, 1000000)
	case 13:
		return in(r.Person, 1, 1000000) && in(r.N, 1, 1000000) && in(int(r.Verdict), 1, 3)
	case 14:
		return in(r.N, 1, 1000000) && in(int(r.Verdict), 1, 3)
	case 15:
		return in(r.Place, 0, 7) && r.Place != r.Office && in(r.N, 1, 1000000) && in(r.Person, 1, 8)
	}
	return true
}

// plainFields follows the chapter's section on digests.
func plainFields(r api.Record) []string {
	claim := 0
	if r.Fact.Claim {
		claim = 1
	}
	cells, _ := reading.Print(r.Piece.Cells)
	goods := ""
	for _, x := range r.Goods {
		goods += fmt.Sprintf("%d %s\n", x.N, x.Unit)
	}
	list := []string{}
	for _, x := range []any{r.Seq, r.Day, r.Office, r.Room, r.Kind, r.Thing, r.Person, r.Place, r.N,
		fmt.Sprintf("%d %d %d %d %d %d", r.Fact.Room, r.Fact.Layer, r.Fact.Days, r.Fact.To, r.Fact.From, claim),
		fmt.Sprintf("%d %d", r.Look.Layer, r.Look.Piece), fmt.Sprintf("%d %s", r.Piece.Kind, cells), goods, r.Verdict, r.Text} {
		list = append(list, fmt.Sprint(x))
	}
	return list
}

func sum(parts ...any) api.Hash {
	var b bytes.Buffer
	for _, x := range parts {
		if h, ok := x.(api.Hash); ok {
			b.Write(h[:])
		} else {
			fmt.Fprint(&b, x)
		}
	}
	return sha256.Sum256(b.Bytes())
}

func plainSalt(r api.Record, i int) api.Hash { return sum("s", r.Salt, "/", i) }

func plainDigest(r api.Record) api.Hash {
	parts := []any{"r"}
	for i, f := range plainFields(r) {
		parts = append(parts, sum("f", plainSalt(r, i), f))
	}
	return sum(parts...)
}

// plainText follows H2.
func plainText(r api.Record) string {
	f := plainFields(r)
	goods := ""
	for _, x := range r.Goods {
		goods += fmt.Sprintf("goods %d %s\n", x.N, x.Unit)
	}
	head := append(f[:9:9], f[13], fmt.Sprint(r.Salt))
	return "record " + strings.Join(head, " ") + "\nfact " + f[9] + "\nlook " + f[10] + "\npiece " + f[11] + "\n" + goods + fmt.Sprintf("text %d\n", len(r.Text)) + r.Text
}

func randomCells(r *rand.Rand) []api.Cell {
	text := pick(r, "", "ann lee", "(an|a:2)n (lee|le:7|:9)", "c(a|e:2)(rn|m:1|:9)", "(abc:1000|a)", "-", " ")
	cells, _ := reading.Parse(text)
	return cells
}

func randomGoods(r *rand.Rand, most, worth int) []api.Amount {
	var l []api.Amount
	for _, unit := range []string{"-", "0", "a", "a b", "b", "c", "crown", "d", "e", "f", "g", "h", "i", "j", "mark", strings.Repeat("z", 24)} {
		if len(l) < most && r.Intn(2) == 0 {
			l = append(l, api.Amount{Unit: unit, N: pick(r, 1, 2, worth)})
		}
	}
	return l
}

// randomRecord returns a well-formed record of a kind; its numbers are often at their limits.
func randomRecord(r *rand.Rand, kind uint8) api.Record {
	id := func() int { return pick(r, 1, 2, 1000000) }
	x := api.Record{Seq: pick(r, 0, 1, 1000000), Day: pick(r, 0, 1, 100000), Office: r.Intn(8), Kind: kind, Salt: pick(r, 0, 1, 9007199254740992)}
	names := namedFields()[kind]
	if strings.Contains(names, "Room") {
		x.Room, x.Thing = 1+r.Intn(8), id()
	}
	if strings.Contains(names, "Fact") {
		x.Fact = api.Fact{Room: 1 + r.Intn(8), Layer: 1 + r.Intn(3), Days: pick(r, 0, 1, 100000), To: uint8(r.Intn(3)), From: uint8(r.Intn(3)), Claim: r.Intn(2) == 0}
	}
	look := api.Look{Layer: 1 + r.Intn(3), Piece: r.Intn(6)}
	switch kind {
	case 1:
		x.N = pick(r, 0, 1, 100000)
		x.Text = pick(r, "/", "1/", "//", "///", "1/2/", "123456/", "666666/1/222/", "111111/1111//", "/123456/")
	case 2:
		x.Look, x.Piece = look, api.Piece{Kind: uint8(1 + r.Intn(6)), Cells: randomCells(r)}
	case 3:
		x.N = 1 + r.Intn(8)
	case 4:
		x.Verdict, x.Person, x.Place, x.N = uint8(1+r.Intn(5)), pick(r, 0, 1, 1000000), pick(r, 0, 1, 1000000), pick(r, 0, 1, 4000)
		if x.Verdict == 3 {
			x.Look = look
		}
	case 5, 6:
		x.Person, x.Place = id(), id()
	case 8:
		x.Place, x.N = (x.Office+1+r.Intn(7))%8, id()
	case 10:
		x.Verdict = pick[uint8](r, 1, 2, 4)
		if x.Verdict == 1 {
			x.N, x.Goods = 1+r.Intn(3), randomGoods(r, 6, 1000000000)
		} else {
			x.Person, x.Goods = id(), randomGoods(r, 16, 2000000000000)
		}
	case 11, 12:
		x.Text = pick(r, "", "weights 1 2 3", "spell 2 v/f", "a\nb\x00\xff", "goods 1 a\ntext 2\n", strings.Repeat("a", 4000))
	case 13:
		x.Thing, x.Person, x.N, x.Verdict = id(), id(), id(), uint8(1+r.Intn(3))
	case 14:
		x.Thing, x.N, x.Verdict = id(), id(), uint8(1+r.Intn(3))
	case 15:
		x.Place, x.N, x.Person = (x.Office+1+r.Intn(7))%8, id(), 1+r.Intn(8)
	}
	return x
}

// eachRecord calls a function with many well-formed records of all kinds.
func eachRecord(f func(r *rand.Rand, x api.Record)) {
	r := rand.New(rand.NewSource(8))
	for kind := uint8(1); kind <= 15; kind++ {
		for range 60 {
			f(r, randomRecord(r, kind))
		}
	}
}
