package court

import (
	"slices"
	"strconv"
	"strings"

	"restante/api"
	"restante/reading"
)

// The indices of the fields of a record.
const (
	seqField = iota
	dayField
	officeField
	roomField
	kindField
	thingField
	personField
	placeField
	nField
	factField
	lookField
	pieceField
	goodsField
	verdictField
	textField
	fieldCount
)

// Fields returns the fields of a record, or none if it is not well-formed.
func Fields(r api.Record) [][]byte {
	if !isRecord(r) {
		return nil
	}
	var list [][]byte
	for _, text := range fieldsOf(r) {
		list = append(list, []byte(text))
	}
	return list
}

func fieldsOf(r api.Record) [fieldCount]string {
	return [fieldCount]string{
		seqField:     words(r.Seq),
		dayField:     words(r.Day),
		officeField:  words(r.Office),
		roomField:    words(r.Room),
		kindField:    words(int(r.Kind)),
		thingField:   words(r.Thing),
		personField:  words(r.Person),
		placeField:   words(r.Place),
		nField:       words(r.N),
		factField:    factText(r.Fact),
		lookField:    words(r.Look.Layer, r.Look.Piece),
		pieceField:   pieceText(r.Piece),
		goodsField:   goodsText(r.Goods, ""),
		verdictField: words(int(r.Verdict)),
		textField:    r.Text,
	}
}

// words returns numbers with blanks between them.
func words(numbers ...int) string {
	var list []string
	for _, n := range numbers {
		list = append(list, strconv.Itoa(n))
	}
	return strings.Join(list, " ")
}

func factText(f api.Fact) string {
	claim := 0
	if f.Claim {
		claim = 1
	}
	return words(f.Room, f.Layer, f.Days, int(f.To), int(f.From), claim)
}

func pieceText(p api.Piece) string {
	text, _ := reading.Print(p.Cells)
	return words(int(p.Kind)) + " " + text
}

// goodsText returns the lines of goods, each behind a word.
func goodsText(l []api.Amount, word string) string {
	var b strings.Builder
	for _, x := range l {
		b.WriteString(word + words(x.N) + " " + x.Unit + "\n")
	}
	return b.String()
}

// Read returns the record with some fields, and the salt 0.
func Read(f [][]byte) (r api.Record, e api.Errno) {
	if len(f) != fieldCount {
		return api.Record{}, api.ErrForm
	}
	defer func() {
		if recover() != nil {
			r, e = api.Record{}, api.ErrForm
		}
	}()
	var texts [fieldCount]string
	for i, b := range f {
		texts[i] = string(b)
	}
	x := readRecord(texts)
	// Each record has one list of fields, so whatever was misread is found by writing the fields again.
	if !slices.EqualFunc(Fields(x), f, slices.Equal) {
		return api.Record{}, api.ErrForm
	}
	return x, api.OK
}

// readRecord returns the record with some fields, and perhaps one for other fields; it panics with ErrForm if there is none.
func readRecord(f [fieldCount]string) api.Record {
	at := func(i int) int { return number(f[i]) }
	return api.Record{
		Seq:     at(seqField),
		Day:     at(dayField),
		Office:  at(officeField),
		Room:    at(roomField),
		Kind:    uint8(at(kindField)),
		Thing:   at(thingField),
		Person:  at(personField),
		Place:   at(placeField),
		N:       at(nField),
		Fact:    readFact(f[factField]),
		Look:    readLook(f[lookField]),
		Piece:   readPiece(f[pieceField]),
		Goods:   readGoods(f[goodsField]),
		Verdict: uint8(at(verdictField)),
		Text:    f[textField],
	}
}

// number returns the number that a word says, perhaps not in its shortest form; it panics with ErrForm if there is none.
func number(word string) int {
	n, err := strconv.Atoi(word)
	if err != nil {
		panic(api.ErrForm)
	}
	return n
}

// decimal returns the number with a text that has neither a sign nor leading zeros, and whether there is one.
func decimal(text string) (int, bool) {
	n, err := strconv.Atoi(text)
	return n, err == nil && n >= 0 && words(n) == text
}

// numbers returns the numbers that a line says; it panics with ErrForm if these are not so many.
func numbers(line string, count int) []int {
	list := strings.Split(line, " ")
	if len(list) != count {
		panic(api.ErrForm)
	}
	var l []int
	for _, word := range list {
		l = append(l, number(word))
	}
	return l
}

func readFact(text string) api.Fact {
	n := numbers(text, 6)
	return api.Fact{Room: n[0], Layer: n[1], Days: n[2], To: uint8(n[3]), From: uint8(n[4]), Claim: n[5] == 1}
}

func readLook(text string) api.Look {
	n := numbers(text, 2)
	return api.Look{Layer: n[0], Piece: n[1]}
}

func readPiece(text string) api.Piece {
	kind, rest, _ := strings.Cut(text, " ")
	cells, e := reading.Parse(rest)
	if e != api.OK {
		panic(e)
	}
	return api.Piece{Kind: uint8(number(kind)), Cells: cells}
}

func readGoods(text string) []api.Amount {
	var l []api.Amount
	for next := liner(&text); text != ""; {
		n, unit, _ := strings.Cut(next(""), " ")
		l = append(l, api.Amount{Unit: unit, N: number(n)})
	}
	return l
}
