package drawers_test

import (
	"fmt"
	"math"
	"strings"
	"testing"

	"restante/api"
	"restante/drawers"
)

func TestNamesOfUnits(t *testing.T) {
	for _, name := range []string{"a", "z", "0", "9", "-", "--", "a b", "a  b", "gold coin", "5-mark note", strings.Repeat("x", 24), "-a-"} {
		l := drawers.New()
		same(t, fmt.Sprintf("SetUnit of %q", name), l.SetUnit(0, name, 1), api.OK)
		same(t, fmt.Sprintf("SetUnit of %q again", name), l.SetUnit(0, name, 2), api.ErrTwice)
		p := api.Posting{Unit: name, N: 1, From: outside, To: thingAccount(1), Why: api.WhyDeposit, Lot: 1}
		_, e := drawers.Audit([]api.Posting{p})
		same(t, fmt.Sprintf("Audit of %q", name), e, api.OK)
	}
	for _, name := range badNames {
		l := drawers.New()
		same(t, fmt.Sprintf("SetUnit of %q", name), l.SetUnit(0, name, 1), api.ErrForm)
		same(t, fmt.Sprintf("SetUnit of %q before the kind", name), l.SetUnit(0, name, 0), api.ErrForm)
	}
}

var badNames = []string{"", " ", "  ", " a", "a ", "A", "aZ", "a_b", "a.b", "a\tb", "a\n", "a\x00", "ä", "a\u00a0b", "\xff", "{", "`", "/", ":", ",", strings.Repeat("x", 25), strings.Repeat("x", 100000)}

func TestKindsOfUnits(t *testing.T) {
	for kind := range 256 {
		l := drawers.New()
		want := api.ErrArg
		if kind >= 1 && kind <= 3 {
			want = api.OK
		}
		same(t, fmt.Sprintf("SetUnit of the kind %d", kind), l.SetUnit(0, "a", uint8(kind)), want)
		if want != api.OK {
			continue
		}
		want = api.OK
		if kind == 3 {
			want = api.ErrUnit
		}
		same(t, fmt.Sprintf("SetValue of the kind %d", kind), l.SetValue(0, "a", 1), want)
		same(t, fmt.Sprintf("SetTerm of the kind %d", kind), l.SetTerm(0, "a", 1, 1), api.OK)
	}
}

func TestUnitsUpToTheLimit(t *testing.T) {
	l := drawers.New()
	for i := range 16 {
		done(t, l, setUnit(i, fmt.Sprint("unit ", i), uint8(1+i%3)))
	}
	refused(t, l, api.ErrLimit, setUnit(16, "more", 1))
	refused(t, l, api.ErrTwice, setUnit(16, "unit 3", 1))
	refused(t, l, api.ErrArg, setUnit(16, "unit 3", 4))
	refused(t, l, api.ErrForm, setUnit(16, "Unit", 4))
	same(t, "day", l.Day(), 15)
	done(t, l, setValue(16, "unit 15", 5))
}

func TestErrorsOfSettings(t *testing.T) {
	l := sample(t, advance(3))
	refused(t, l, api.ErrArg, setUnit(-1, "", 0), setUnit(100001, "", 0), setUnit(math.MinInt, "a", 1), setUnit(math.MaxInt, "a", 1))
	refused(t, l, api.ErrTime, setUnit(2, "", 0), setValue(2, "", 0), setTerm(2, "", 0, 0))
	refused(t, l, api.ErrUnit, setValue(3, "gold", 0), setValue(3, "ring", 0), setValue(3, "ring", 1), setValue(3, "", 1), setTerm(3, "gold", 0, 0), setTerm(3, "", 1, 1))
	refused(t, l, api.ErrArg, setValue(3, "mark", 0), setValue(3, "mark", -1), setValue(3, "mark", 100001), setValue(3, "mark", math.MaxInt), setValue(3, "mark", math.MinInt))
	refused(t, l, api.ErrArg, setTerm(3, "mark", 0, 1), setTerm(3, "mark", 1000000001, 1), setTerm(3, "mark", -1, 1), setTerm(3, "mark", 1, 0), setTerm(3, "mark", 1, 40001), setTerm(3, "mark", math.MaxInt, 1), setTerm(3, "mark", 1, math.MinInt))
	done(t, l, setValue(3, "mark", 1), setValue(4, "mark", 100000), setTerm(4, "mark", 1000000000, 40000), setTerm(4, "ring", 1, 1))
}

func TestValuesOfDays(t *testing.T) {
	l := drawers.New()
	done(t, l, setUnit(5, "a", 1), setUnit(5, "b", 2), setValue(7, "a", 3), setValue(7, "b", 8), setValue(9, "a", 4), setValue(9, "a", 5), setValue(9, "a", 6), setValue(12, "a", 7), setValue(12, "b", 9))
	for day, want := range map[int]int{math.MinInt: 0, -1: 0, 0: 0, 5: 0, 6: 0, 7: 3, 8: 3, 9: 6, 11: 6, 12: 7, 100000: 7, 100001: 7, math.MaxInt: 7} {
		same(t, fmt.Sprintf("the value of a on the day %d", day), l.Value("a", day), want)
	}
	same(t, "b", fmt.Sprint(l.Value("b", 6), l.Value("b", 11), l.Value("b", 12)), "0 8 9")
	same(t, "no unit", fmt.Sprint(l.Value("c", 12), l.Value("", 12), l.Value("A", 12)), "0 0 0")
}

// Many values: each day has that which was set last.
func TestManyValues(t *testing.T) {
	l := drawers.New()
	done(t, l, setUnit(0, "a", 1))
	for day := range 3000 {
		done(t, l, setValue(day, "a", 1+day), setValue(day, "a", 2+day))
	}
	for day := range 3000 {
		same(t, fmt.Sprintf("the day %d", day), l.Value("a", day), 2+day)
	}
}

func TestTermsInForce(t *testing.T) {
	l := drawers.New()
	done(t, l, setUnit(0, "a", 3), setUnit(0, "b", 1), setTerm(5, "a", 10, 100), setTerm(6, "a", 20, 200), setTerm(7, "a", 10, 300), setTerm(7, "b", 15, 1), setTerm(8, "a", 20, 400), setTerm(8, "a", 20, 500), setTerm(9, "a", 5, 600))
	for _, x := range []struct{ n, day, want int }{
		{10, 4, 0}, {10, 5, 100}, {9, 5, 0}, {20, 5, 100}, {20, 6, 200}, {19, 6, 100}, {19, 7, 300}, {20, 7, 200}, {20, 8, 500}, {1000000000, 8, 500}, {19, 8, 300},
		{9, 8, 0}, {9, 9, 600}, {5, 9, 600}, {4, 9, 0}, {10, 9, 300}, {0, 9, 0}, {-1, 9, 0}, {math.MinInt, 9, 0}, {math.MaxInt, 9, 500}, {10, math.MinInt, 0}, {10, -1, 0}, {10, math.MaxInt, 300},
	} {
		same(t, fmt.Sprintf("the term of %d a on the day %d", x.n, x.day), l.Term("a", x.n, x.day), x.want)
	}
	same(t, "b", fmt.Sprint(l.Term("b", 14, 9), l.Term("b", 15, 9), l.Term("c", 15, 9), l.Term("", 15, 9)), "0 1 0 0")
}

func TestTermsUpToTheLimit(t *testing.T) {
	l := drawers.New()
	done(t, l, setUnit(0, "a", 1), setUnit(0, "b", 1))
	for i := range 64 {
		done(t, l, setTerm(i, []string{"a", "b"}[i%2], 1+i%3, 1+i))
	}
	refused(t, l, api.ErrLimit, setTerm(64, "a", 1, 1), setTerm(64, "b", 500, 1))
	refused(t, l, api.ErrArg, setTerm(64, "a", 0, 1))
	refused(t, l, api.ErrUnit, setTerm(64, "c", 0, 1))
	same(t, "terms", fmt.Sprint(l.Term("a", 1, 63), l.Term("a", 2, 63), l.Term("a", 3, 63)), "61 59 63")
}

func TestDueOfDeposits(t *testing.T) {
	for _, x := range []struct{ day, least, days, n, due int }{
		{5, 1, 10, 7, 15}, {5, 8, 10, 7, 100001}, {5, 7, 10, 7, 15}, {99990, 1, 10, 7, 100000}, {99991, 1, 10, 7, 100001}, {99992, 1, 10, 7, 100001},
		{100000, 1, 40000, 7, 100001}, {60000, 1, 40000, 7, 100000}, {60001, 1, 40000, 7, 100001}, {0, 1, 40000, 7, 40000}, {0, 1, 1, 7, 1}, {100000, 1, 1, 1000000000, 100001},
	} {
		l := drawers.New()
		done(t, l, setUnit(0, "a", 3), setTerm(0, "a", x.least, x.days), deposit(x.day, 1, 1, amount("a", x.n)))
		same(t, fmt.Sprintf("the lot of %v", x), fmt.Sprint(l.Lots(1)), fmt.Sprintf("[{1 1 1 %d %d a %d %d 1 0}]", x.day, x.due, x.n, x.n))
	}
}

// The Due of a lot is that of the term in force on the day of its deposit.
func TestDueNeverChanges(t *testing.T) {
	l := sample(t, deposit(5, 1, 1, amount("crown", 7)), setTerm(5, "crown", 1, 3), deposit(5, 1, 2, amount("crown", 7)), setTerm(6, "crown", 2, 30), deposit(6, 1, 3, amount("crown", 1)))
	same(t, "lots", fmt.Sprint(l.Lots(1)), "[{1 1 1 5 15 crown 7 7 1 0} {2 1 2 5 8 crown 7 7 1 0} {3 1 3 6 9 crown 1 1 1 0}]")
	done(t, l, lose(7, 1), takeBack(7, 1))
	same(t, "lots", fmt.Sprint(l.Lots(1)), "[{1 1 1 5 15 crown 7 7 1 0} {2 1 2 5 8 crown 7 7 1 0} {3 1 3 6 9 crown 1 1 1 0}]")
}
