package people_test

import (
	"fmt"
	"math"
	"math/rand"
	"strings"
	"testing"

	"restante/api"
	"restante/people"
)

var lineCases = []struct {
	line string
	x    api.Entry
}{
	{"0 name 1 0 0 ann lee", api.Entry{Kind: 1, Person: 1, Name: "ann lee"}},
	{"7 name 2 3 5 a  b   c", api.Entry{Day: 7, Kind: 1, Person: 2, Since: 3, Until: 5, Name: "a  b   c"}},
	{"7 name 2 3 5 1 2", api.Entry{Day: 7, Kind: 1, Person: 2, Since: 3, Until: 5, Name: "1 2"}},
	{"100000 name 1000000 99999 100000 -", api.Entry{Day: 100000, Kind: 1, Person: 1000000, Since: 99999, Until: 100000, Name: "-"}},
	{"0 live 1 7 0 50", api.Entry{Kind: 2, Person: 1, Place: 7, Until: 50}},
	{"40 live 1 9 50 0", api.Entry{Day: 40, Kind: 2, Person: 1, Place: 9, Since: 50}},
	{"60 death 2 61", api.Entry{Day: 60, Kind: 3, Person: 2, Since: 61}},
	{"60 heir 2 1 60 70", api.Entry{Day: 60, Kind: 4, Person: 2, Other: 1, Since: 60, Until: 70}},
	{"40 redirect 5 1 7 2 9 50 80", api.Entry{Day: 40, Kind: 5, Order: 5, Person: 1, Place: 7, Other: 2, At: 9, Since: 50, Until: 80}},
	{"40 redirect 5 1 0 1 0 100000 0", api.Entry{Day: 40, Kind: 5, Order: 5, Person: 1, Other: 1, Since: 100000}},
	{"81 cancel 6 85", api.Entry{Day: 81, Kind: 6, Order: 6, Since: 85}},
	{"70 refuse 1 9 2 70 75", api.Entry{Day: 70, Kind: 7, Person: 1, Place: 9, Other: 2, Since: 70, Until: 75}},
	{"70 refuse 1 0 0 0 0", api.Entry{Day: 70, Kind: 7, Person: 1}},
	{"70 refuse 1 0 1 0 0", api.Entry{Day: 70, Kind: 7, Person: 1, Other: 1}},
}

func TestWriteAndRead(t *testing.T) {
	for _, x := range lineCases {
		line, e := people.Write(x.x)
		same(t, fmt.Sprintf("Write of %v", x.x), e, api.OK)
		same(t, fmt.Sprintf("Write of %v", x.x), line, x.line)
		got, e := people.Read(x.line)
		same(t, fmt.Sprintf("Read of %q", x.line), e, api.OK)
		same(t, fmt.Sprintf("Read of %q", x.line), got, x.x)
	}
}

func TestReadRefusesOtherLines(t *testing.T) {
	for _, line := range []string{
		"", " ", "0", "0 ", "0 live", "0 live ", "0 live 1 7 0", "0 live 1 7 0 ", "0 live 1 7 0 50 ", "0 live 1 7 0 50 1", "0 live 1 7 0 50 a", " 0 live 1 7 0 50", "0  live 1 7 0 50", "0 live  1 7 0 50", "0 live 1 7  0 50", "0 live 1 7 0 50\n", "0\tlive 1 7 0 50",
		"0 live 1 7 0 050", "00 live 1 7 0 50", "0 live 01 7 0 50", "0 live 1 7 00 50", "0 live 1 7 0 00", "+0 live 1 7 0 50", "-0 live 1 7 0 50", "0 live +1 7 0 50", "0 live 1 7 -0 50", "0 live 1 7 0 -0", "-1 live 1 7 0 50", "0 live 1 7 -1 50", "0 live 1 7 0 -1",
		"0 live 0 7 0 50", "0 live 1 0 0 50", "0 live 1000001 7 0 50", "0 live 1 1000001 0 50", "100001 live 1 7 0 50", "0 live 1 7 100001 0", "0 live 1 7 0 100001", "0 live 1 7 5 5", "0 live 1 7 5 4",
		"0 Live 1 7 0 50", "0 lives 1 7 0 50", "0 liv 1 7 0 50", "0  1 7 0 50", "live 0 1 7 0 50", "0 walk 1 7 0 0", "0 name", "0 name 1", "0 name 1 0 0", "0 name 1 0 0 ", "0 name 1 0 0  a", "0 name 1 0 0 a ", "0 name 1 0 0 A", "0 name 1 0 0 a\n", "0 name 1 0 0 abcdefghijklmnopqrstuvwxy", "0 name 1 5 5 a", "0 name 0 0 0 a",
		"0 death 1", "0 death 1 0 0", "0 death 1 0 a", "0 death 0 0", "0 heir 1 1 0 0", "0 heir 1 0 0 0", "0 heir 0 1 0 0", "0 redirect 0 1 0 1 0 0 0", "0 redirect 1 0 0 1 0 0 0", "0 redirect 1 1 0 0 0 0 0", "0 redirect 1 1 0 1 0 0", "0 redirect 1 1 1000001 1 0 0 0", "0 redirect 1 1 0 1 1000001 0 0",
		"0 cancel 0 0", "0 cancel 1", "0 cancel 1 0 0", "0 refuse 0 0 0 0 0", "0 refuse 1 -1 0 0 0", "0 refuse 1 0 0 0", "0 refuse 1 0 1000001 0 0", "1e1 cancel 1 0", "0x1 cancel 1 0", "1_0 cancel 1 0", "1.0 cancel 1 0", "x cancel 1 0", "0 cancel x 0", "0 cancel 1 x", "0 cancel ² 0",
		"99999999999999999999 cancel 1 0", "0 cancel 18446744073709551617 0", "0 cancel 1 18446744073709551616", strings.Repeat("9", 100000), strings.Repeat(" ", 1000), "0 name 1 0 0 " + strings.Repeat("a", 100000),
	} {
		x, e := people.Read(line)
		same(t, fmt.Sprintf("Read of %.40q", line), e, api.ErrForm)
		same(t, fmt.Sprintf("Read of %.40q", line), x, api.Entry{})
	}
}

// Each value of each field of a well-formed entry is tried, so that each bound is met.
func TestFieldsOfEntries(t *testing.T) {
	met := map[api.Errno]int{}
	for _, c := range lineCases {
		x := c.x
		for _, field := range []*int{&x.Day, &x.Since, &x.Until, &x.Person, &x.Place, &x.Other, &x.At, &x.Order} {
			for _, n := range []int{math.MinInt, -1, 0, 1, 2, 3, 5, 6, 49, 50, 51, 99999, 100000, 100001, 999999, 1000000, 1000001, math.MaxInt} {
				x = c.x
				*field = n
				met[checkForm(t, x)]++
			}
		}
		for _, name := range []string{"", "a", "A", " a", "a ", "a b", "a\n", "ä", strings.Repeat("z", 24), strings.Repeat("z", 25)} {
			x = c.x
			x.Name = name
			met[checkForm(t, x)]++
		}
		for kind := range 10 {
			x = c.x
			x.Kind = uint8(kind)
			met[checkForm(t, x)]++
			x.Kind = uint8(255 - kind)
			met[checkForm(t, x)]++
		}
	}
	if len(met) != 3 || met[api.OK] < 100 || met[api.ErrForm] < 20 {
		t.Fatalf("errors %v", met)
	}
}

// checkForm compares what Write and Check say of an entry by itself with the oracle, and reads its line.
func checkForm(t *testing.T, x api.Entry) api.Errno {
	t.Helper()
	want := formError(x)
	line, e := people.Write(x)
	same(t, fmt.Sprintf("Write of %+v", x), e, want)
	i, f := people.Check([]api.Entry{x})
	same(t, "the index", i, 0)
	if want != api.OK {
		same(t, fmt.Sprintf("Check of %+v", x), f, want)
		same(t, fmt.Sprintf("Write of %+v", x), line, "")
		return want
	}
	same(t, fmt.Sprintf("Check of %+v", x), f, nextError(nil, x))
	same(t, fmt.Sprintf("Write of %+v", x), line, lineOf(x))
	again, e := people.Read(line)
	same(t, fmt.Sprintf("Read of %q", line), e, api.OK)
	same(t, fmt.Sprintf("Read of %q", line), again, x)
	return want
}

// An entry with several faults has the first one of their errors.
func TestRandomEntries(t *testing.T) {
	r := rand.New(rand.NewSource(1))
	met := map[api.Errno]int{}
	for range 20000 {
		x := randomEntry(r, 3)
		for range r.Intn(3) {
			*pick(r, &x.Day, &x.Since, &x.Until, &x.Person, &x.Place, &x.Other, &x.At, &x.Order) = pick(r, -1, 0, 0, 1, 2, 100000, 100001, 1000000, 1000001)
		}
		x.Name = pick(r, x.Name, x.Name, x.Name, "", "a", "A")
		met[checkForm(t, x)]++
	}
	if len(met) != 3 {
		t.Fatalf("errors %v", met)
	}
}

// P3.9, from the side of the lines.
func TestReadThenWrite(t *testing.T) {
	r := rand.New(rand.NewSource(2))
	read := 0
	for range 50000 {
		line := []byte(pick(r, lineCases...).line)
		for range 1 + r.Intn(2) {
			line[r.Intn(len(line))] = pick(r, []byte(" 0123-+aA")...)
		}
		x, e := people.Read(string(line))
		if e == api.OK {
			read++
			again, f := people.Write(x)
			same(t, fmt.Sprintf("Write of Read of %q", line), f, api.OK)
			same(t, "Write of Read", again, string(line))
		}
	}
	if read < 1000 {
		t.Fatalf("only %d lines of entries", read)
	}
}
