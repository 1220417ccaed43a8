package seals_test

import (
	"fmt"
	"math/rand"
	"regexp"
	"slices"
	"strconv"
	"strings"
	"testing"

	"restante/api"
	"restante/reading"
	"restante/seals"
)

var (
	headLine  = regexp.MustCompile(`^thing (\d{1,9}) (\d{1,9}) (\d{1,9}) (\d{1,9})$`)
	pieceLine = regexp.MustCompile(`^piece ([1-6]) (.*)$`)
	goodsLine = regexp.MustCompile(`^goods (\d{1,10}) (.*)$`)
	shownLine = regexp.MustCompile(`^shown ([1-8])((?: [1-3]\.[0-5])+)$`)
)

// getOf is what GetThing returns: all that its lines say, if its text is that again.
func getOf(text string) (api.Thing, api.Seal, int, api.Errno) {
	var x api.Thing
	var s api.Seal
	room := 0
	number := func(word string) int {
		n, _ := strconv.Atoi(word)
		return n
	}
	for _, line := range strings.Split(strings.TrimSuffix(text, "\n"), "\n") {
		last := len(x.Layers) - 1
		if m := headLine.FindStringSubmatch(line); m != nil {
			x.Id, x.Day, room, s.Opened = number(m[1]), number(m[2]), number(m[3]), number(m[4])
			s.Thing = x.Id
		} else if line == "layer" {
			x.Layers = append(x.Layers, api.Layer{})
		} else if m := pieceLine.FindStringSubmatch(line); m != nil && last >= 0 {
			cells, _ := reading.Parse(m[2])
			x.Layers[last].Pieces = append(x.Layers[last].Pieces, api.Piece{Kind: uint8(number(m[1])), Cells: cells})
		} else if m := goodsLine.FindStringSubmatch(line); m != nil && last >= 0 {
			x.Layers[last].Goods = append(x.Layers[last].Goods, api.Amount{Unit: m[2], N: number(m[1])})
		} else if m := shownLine.FindStringSubmatch(line); m != nil {
			y := api.Shown{Room: number(m[1])}
			for _, look := range strings.Fields(m[2]) {
				y.Looks = append(y.Looks, api.Look{Layer: number(look[:1]), Piece: number(look[2:])})
			}
			s.Rooms = append(s.Rooms, y)
		}
	}
	if again, e := textOf(x, s, room); e != api.OK || again != text {
		return api.Thing{}, api.Seal{}, 0, api.ErrForm
	}
	return x, s, room, api.OK
}

// spoiltText changes a word or a line of a text.
func spoiltText(r *rand.Rand, text string) string {
	lines := strings.Split(text, "\n")
	i := r.Intn(len(lines))
	words := strings.Split(lines[i], " ")
	j := r.Intn(len(words))
	word := pick(r, "", "0", "1", "2", "9", "01", "+1", "-1", "257", "2.0", "1.1", "1.01", "a", "A", "(a)", "(a:7)", "layer", "piece", "goods", "shown", "thing", "99999999999999999999")
	switch r.Intn(7) {
	case 0:
		words[j] = word
	case 1:
		words = slices.Insert(words, j, word)
	case 2:
		words = slices.Delete(words, j, j+1)
	case 3:
		words[j] += word
	case 4:
		return strings.Join(slices.Delete(lines, i, i+1), "\n")
	case 5:
		return strings.Join(slices.Insert(lines, i, pick(r, lines...)), "\n")
	case 6:
		return strings.Join(lines[:i], "\n")
	}
	lines[i] = strings.Join(words, " ")
	return strings.Join(lines, "\n")
}

// D24, D25, P4.8.
func TestTextsAgainstTheOracle(t *testing.T) {
	met := map[string]int{}
	scenes(t, 17, 6000, func(x scene, r *rand.Rand) {
		room := pick(r, append(extremes(), 1, 2, 3, 4, 5, 6, 7, 8, 1, 2, 3, 4, 5, 6, 7, 8)...)
		text, e := seals.PutThing(x.thing, x.seal, room)
		want, e2 := textOf(x.thing, x.seal, room)
		same(t, fmt.Sprint("PutThing in the room ", room), fmt.Sprint(text, e), fmt.Sprint(want, e2))
		met[fmt.Sprint("PutThing ", e)]++
		if e == api.OK {
			thing, s, in, e := seals.GetThing(text)
			equal(t, fmt.Sprintf("GetThing of %q", text), []any{thing, s, in, e}, []any{x.thing, x.seal, room, api.OK})
		}
		for range 3 {
			text = spoiltText(r, text)
			thing, s, in, e := seals.GetThing(text)
			thing2, s2, in2, e2 := getOf(text)
			equal(t, fmt.Sprintf("GetThing of %q", text), []any{thing, s, in, e}, []any{thing2, s2, in2, e2})
			met[fmt.Sprint("GetThing ", e)]++
		}
	})
	for _, x := range []string{"PutThing 0", "PutThing 1", "PutThing 2", "GetThing 0", "GetThing 4"} {
		if met[x] < 50 {
			t.Errorf("only %d of %s", met[x], x)
		}
	}
}

// longThing returns a thing whose text, in a room, with its first seal, has this length, from 5929 to 6025.
func longThing(length int) api.Thing {
	cell := api.Cell{}
	for i := range 8 {
		cell.Alts = append(cell.Alts, api.Alt{Letters: "ab" + string(rune('a'+i)), Cost: 1000})
	}
	x := thingOf(layerOf(1, 1, 1, 1), layerOf(1, 1, 1))
	for i := range x.Layers[0].Pieces {
		x.Layers[0].Pieces[i].Cells = slices.Repeat([]api.Cell{cell}, 20)
	}
	for i := range length - 5929 {
		piece := &x.Layers[1].Pieces[i/32]
		piece.Cells = append(piece.Cells, api.Cell{Alts: []api.Alt{{Letters: "a"}}})
	}
	return x
}

// D24: the limit of the text, and the order of the errors.
func TestLongTexts(t *testing.T) {
	s := api.Seal{Thing: 9}
	x := longThing(6000)
	text, e := seals.PutThing(x, s, 1)
	same(t, "6000 bytes", fmt.Sprint(len(text), e), "6000 0")
	thing, _, _, e := seals.GetThing(text)
	equal(t, "GetThing", []any{thing, e}, []any{x, api.OK})
	x.Id, s.Thing = 10, 10
	text, e = seals.PutThing(x, s, 1)
	same(t, "6001 bytes", fmt.Sprint(len(text), e), fmt.Sprint(0, api.ErrLimit))
	_, e = seals.PutThing(x, s, 9)
	same(t, "a room", e, api.ErrArg)
	_, e = seals.PutThing(x, api.Seal{}, 1)
	same(t, "a seal", e, api.ErrArg)
	_, e = seals.PutThing(thingOf(layerOf(), layerOf(), layerOf(), layerOf()), api.Seal{}, 9)
	same(t, "a thing", e, api.ErrLimit)
	thing, seal, room, e := seals.GetThing(strings.Repeat("layer\n", 1<<20))
	equal(t, "GetThing of a long text", []any{thing, seal, room, e}, []any{api.Thing{}, api.Seal{}, 0, api.ErrForm})
}

// D24, D25: words that are no others, byte by byte.
func TestTexts(t *testing.T) {
	x := api.Thing{Id: 1000000, Day: 100000, Layers: []api.Layer{
		{Pieces: []api.Piece{{Kind: 1}, {Kind: 6, Cells: []api.Cell{{Alts: []api.Alt{{Letters: " "}}}, {Alts: []api.Alt{{Letters: "a", Cost: 3}, {Letters: ""}}}}}}, Goods: []api.Amount{{Unit: "a  b", N: 1000000000}, {Unit: "piece 1", N: 2}}},
		{}, {Pieces: []api.Piece{{Kind: 2}}}}}
	s := api.Seal{Thing: 1000000, Opened: 3, Rooms: []api.Shown{{Room: 2, Looks: []api.Look{{Layer: 1, Piece: 1}, {Layer: 3}}}, {Room: 8, Looks: []api.Look{{Layer: 1}}}}}
	text, e := seals.PutThing(x, s, 8)
	want := "thing 1000000 100000 8 3\nlayer\npiece 1 \npiece 6  (a:3|)\ngoods 1000000000 a  b\ngoods 2 piece 1\nlayer\nlayer\npiece 2 \nshown 2 1.1 3.0\nshown 8 1.0\n"
	same(t, "PutThing", fmt.Sprint(text, e), want+"0")
	for _, bad := range []string{"", "\n", want + "\n", "\n" + want, want[:len(want)-1], strings.Replace(want, "piece 1 \n", "piece 1\n", 1), strings.Replace(want, "\n", "\r\n", 1), strings.Replace(want, " 8 3\n", " 8 3 \n", 1), strings.Replace(want, " 8 3\n", " 8  3\n", 1),
		strings.Replace(want, "100000 8", "100000 +8", 1), strings.Replace(want, "layer", "layers", 1), strings.Replace(want, "layer", "layer ", 1), strings.Replace(want, "thing", "Thing", 1), strings.Replace(want, "piece 6", "piece 262", 1), strings.Replace(want, "piece 6", "piece 06", 1),
		strings.Replace(want, "piece 6", "piece 7", 1), strings.Replace(want, "(a:3|)", "(a:03|)", 1), strings.Replace(want, "(a:3|)", "(a:3|", 1), strings.Replace(want, "goods 2", "goods 0", 1), strings.Replace(want, "goods 2", "goods 02", 1), strings.Replace(want, "goods 2 ", "goods 2", 1),
		strings.Replace(want, "shown 8 1.0", "shown 8", 1), strings.Replace(want, "shown 8 1.0", "shown 8 ", 1), strings.Replace(want, "1.0\n", "1.0 \n", 1), strings.Replace(want, "1.0\n", "1\n", 1), strings.Replace(want, "1.0\n", "1.00\n", 1), strings.Replace(want, "1.0\n", "01.0\n", 1), strings.Replace(want, "1.0\n", "2.0\n", 1),
		strings.Replace(want, "shown 8", "shown 2", 1), strings.Replace(want, "8 3\n", "8 2\n", 1), strings.Replace(want, "1.1 3.0", "3.0 1.1", 1), "piece 1 \n" + want, want + "layer\n", want + "goods 1 z\n", want + want, "layer\nlayer\n"} {
		thing, seal, room, e := seals.GetThing(bad)
		equal(t, fmt.Sprintf("GetThing of %q", bad), []any{thing, seal, room, e}, []any{api.Thing{}, api.Seal{}, 0, api.ErrForm})
	}
	thing, seal, room, e := seals.GetThing("thing 1 0 1 0\nlayer\n")
	equal(t, "the least thing", []any{thing, seal, room, e}, []any{api.Thing{Id: 1, Layers: make([]api.Layer, 1)}, api.Seal{Thing: 1}, 1, 0})
}
