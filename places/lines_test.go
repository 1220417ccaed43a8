package places_test

import (
	"fmt"
	"math"
	"math/rand"
	"strings"
	"testing"

	"restante/api"
	"restante/places"
)

var lineCases = []struct {
	line string
	e    api.PlaceEvent
}{
	{"10 found 2 1 old haven", api.PlaceEvent{Day: 10, Kind: api.PlaceFound, Place: 2, Other: 1, Name: "old haven"}},
	{"0 found 1 0 a", api.PlaceEvent{Day: 0, Kind: api.PlaceFound, Place: 1, Name: "a"}},
	{"7 found 3 3 a", api.PlaceEvent{Day: 7, Kind: api.PlaceFound, Place: 3, Other: 3, Name: "a"}},
	{"100000 found 1000000 1000000 -", api.PlaceEvent{Day: 100000, Kind: api.PlaceFound, Place: 1000000, Other: 1000000, Name: "-"}},
	{"100 rename 2 haven", api.PlaceEvent{Day: 100, Kind: api.PlaceRename, Place: 2, Name: "haven"}},
	{"100 rename 2 a  b   c", api.PlaceEvent{Day: 100, Kind: api.PlaceRename, Place: 2, Name: "a  b   c"}},
	{"5 move 2 1", api.PlaceEvent{Day: 5, Kind: api.PlaceMove, Place: 2, Other: 1}},
	{"5 move 2 0", api.PlaceEvent{Day: 5, Kind: api.PlaceMove, Place: 2}},
	{"5 move 2 2", api.PlaceEvent{Day: 5, Kind: api.PlaceMove, Place: 2, Other: 2}},
	{"200 merge 3 2", api.PlaceEvent{Day: 200, Kind: api.PlaceMerge, Place: 3, Other: 2}},
	{"20 alias 10 0", api.PlaceEvent{Day: 20, Kind: api.PlaceAlias, Place: 10, Name: "0"}},
	{"20 alias 10 1 2 found", api.PlaceEvent{Day: 20, Kind: api.PlaceAlias, Place: 10, Name: "1 2 found"}},
}

func TestWriteAndRead(t *testing.T) {
	for _, x := range lineCases {
		line, e := places.Write(x.e)
		same(t, fmt.Sprintf("Write of %v", x.e), e, api.OK)
		same(t, fmt.Sprintf("Write of %v", x.e), line, x.line)
		got, e := places.Read(x.line)
		same(t, fmt.Sprintf("Read of %q", x.line), e, api.OK)
		same(t, fmt.Sprintf("Read of %q", x.line), got, x.e)
	}
}

func TestReadRefusesOtherLines(t *testing.T) {
	for _, line := range []string{
		"", " ", "10", "10 ", "10 found", "10 found 2", "10 found 2 1", "10 found 2 1 ", "10 found 2  a", "10 found 2 1  a", "10 found 2 1 a ", "10 found 2 1 A", "10 found 2 1 a\n",
		"010 move 1 2", "10 move 01 2", "10 move 1 02", "10 move 1 00", "+10 move 1 2", "10 move +1 2", "-1 move 1 2", "-0 move 1 2", "10 move 1 -0", "10 move 1 -2", "10 move 0 2", "100001 move 1 2", "10 move 1000001 2", "10 move 1 1000001",
		"10 move 1", "10 move 1 ", "10 move 1 2 ", "10 move 1 2 3", "10 move 1 2 a", " 10 move 1 2", "10  move 1 2", "10 move  1 2", "10 move 1  2", "10\tmove 1 2", "10 move 1 2\n", "10 Move 1 2", "10 moves 1 2", "10  1 2", "move 10 1 2",
		"10 merge 1 1", "10 merge 1 0", "10 merge 1", "10 merge 1 2 a", "10 rename 1", "10 rename 1 ", "10 rename 1  a", "10 alias 1 abcdefghijklmnopqrstuvwxy", "1e1 move 1 2", "0x10 move 1 2", "1_0 move 1 2", "10.0 move 1 2",
		"99999999999999999999 move 1 2", "10 move 18446744073709551617 2", "10 move 1 18446744073709551618", "x move 1 2", "10 move x 2", "10 move 1 x", "10 found 1 x a", "10 move 1 ²", strings.Repeat("9", 100000), strings.Repeat(" ", 1000),
	} {
		e, f := places.Read(line)
		same(t, fmt.Sprintf("Read of %.40q", line), f, api.ErrForm)
		same(t, fmt.Sprintf("Read of %.40q", line), e, api.PlaceEvent{})
	}
}

func TestWriteRefusesOtherEvents(t *testing.T) {
	r := rand.New(rand.NewSource(4))
	number := func() int {
		return pick(r, math.MinInt, -1, 0, 0, 0, 1, 1, 2, 2, 3, 99999, 100000, 100001, 999999, 1000000, 1000001, math.MaxInt)
	}
	met := map[api.Errno]int{}
	for range 20000 {
		e := api.PlaceEvent{Day: number(), Kind: uint8(pick(r, 0, 1, 2, 3, 4, 5, 6, 255)), Place: number(), Other: number(), Name: pick(r, "", "", "a", "b c", "A", " a", "a ", "a\n", "ä", strings.Repeat("z", 24), strings.Repeat("z", 25))}
		want := formError(e)
		met[want]++
		line, f := places.Write(e)
		same(t, fmt.Sprintf("Write of %v", e), f, want)
		same(t, fmt.Sprintf("Add of %v to nothing", e), places.New().Add(e) == api.ErrArg, want == api.ErrArg)
		same(t, fmt.Sprintf("Add of %v to nothing", e), places.New().Add(e) == api.ErrForm, want == api.ErrForm)
		if want != api.OK {
			same(t, fmt.Sprintf("Write of %v", e), line, "")
			continue
		}
		again, f := places.Read(line)
		same(t, fmt.Sprintf("Read of %q", line), f, api.OK)
		same(t, fmt.Sprintf("Read of %q", line), again, e)
	}
	if len(met) != 3 {
		t.Fatalf("errors %v", met)
	}
}

func TestReadThenWrite(t *testing.T) {
	r := rand.New(rand.NewSource(5))
	read := 0
	for range 50000 {
		line := []byte(pick(r, lineCases...).line)
		for range 1 + r.Intn(2) {
			line[r.Intn(len(line))] = pick(r, []byte(" 0123-+aA")...)
		}
		e, f := places.Read(string(line))
		if f == api.OK {
			read++
			again, g := places.Write(e)
			same(t, fmt.Sprintf("Write of Read of %q", line), g, api.OK)
			same(t, "Write of Read", again, string(line))
		}
	}
	if read < 1000 {
		t.Fatalf("only %d lines of events", read)
	}
}
