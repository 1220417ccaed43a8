package desk_test

import (
	"fmt"
	"math/rand"
	"strings"
	"testing"

	"restante/api"
	"restante/desk"
)

// opening is the beginning of the example of the chapter, which prints ok nine times.
const opening = "desk 2 65536 0\nrules 0 2\nweights 0 20 60\nrule all rank 1: open any if always\npublish 0 place 0 found 1 0 north\npublish 0 place 0 found 2 1 ayton\npublish 0 place 0 found 3 1 ayford\npublish 0 people 0 name 1 0 0 ann lee\npublish 0 people 0 live 1 2 0 0\npublish 0 people 0 name 2 0 0 ann lee\npublish 0 people 0 live 2 3 0 0\n"

// ring is the thing of the example.
const parcel = "thing 7 5\nlayer\npiece 1 ann lee\nlayer\npiece 2 ayton\ngoods 3 crown\n"

// runs compares what a script prints.
func runs(t *testing.T, script, want string) {
	t.Helper()
	got, line, e := desk.Run(script)
	same(t, "the error of "+script, e, api.OK)
	same(t, "the line of "+script, line, 0)
	same(t, script, got, want)
}

// fault compares the line that does not have a form.
func fault(t *testing.T, script string, want int) {
	t.Helper()
	got, line, e := desk.Run(script)
	fails(t, script, e, api.ErrForm, got)
	same(t, script, line, want)
}

// The examples of the chapter, and that of the document.
func TestExamples(t *testing.T) {
	script, want := opening, strings.Repeat("ok\n", 9)
	for _, x := range [][2]string{
		{"publish 0 place 0 move 9 1\n", "error 5\n"},
		{"publish 0 hello\n", "error 4\n"},
		{"money 0 unit crown 1\nday 5\n", "ok\nok\n"},
		{parcel + "arrive 0 1\n", "ok\n"},
		{"work 0 7\n", "verdict 3 0 0 2 0\n"},
		{"show 0 1\n", "views 1\nview 7 5 2 1 2\npart 2 0 2 ayton\n"},
		{"work 0 7\n", "verdict 1 1 2 0 0\n"},
		{"where 7\nthings 0\n", "where 4 0 0\nthings 0\n"},
		{"trial 0\n", "trial 2\n1 0 -3 crown\n3 1 3 crown\n"},
		{"audit 7\n", "audit 1 0 0 0\n"},
		{"work 0 7\n" + parcel + "arrive 0 1\n", "error 5\nerror 6\n"},
	} {
		script += x[0]
		want += x[1]
		runs(t, script, want)
	}
	got, _, _ := desk.Run(script + "journal 0\n")
	if rest, ok := strings.CutPrefix(got, want); !ok || !strings.HasPrefix(rest, "journal 16\nrecord ") {
		t.Fatal(rest)
	}
	fault(t, "desk 1 1000 0\nday 1\n\nday 01\n", 4)
}

// Example 9 of the document: the rules open the second layer from the tenth day on.
func TestLateExample(t *testing.T) {
	runs(t, strings.Replace(opening, "open any if always", "open any if days >= 10", 1)+"thing 7 0\nlayer\nlayer\npiece 2 ayton\narrive 0 1\nwork 0 7\nday 9\nwork 0 7\nday 10\nwork 0 7\nwork 0 7\naudit 7\n",
		strings.Repeat("ok\n", 9)+"ok\nverdict 4 0 0 0 0\nok\nverdict 4 0 0 0 0\nok\nverdict 3 0 0 2 0\nverdict 1 1 2 0 0\naudit 1 0 0 0\n")
}

// Each form: numbers at their limits, and lines that are not allowed.
func TestForms(t *testing.T) {
	long, longer := "9999999999999999", "10000000000000000"
	numbered := map[string]int{"desk": 3, "day": 1, "arrive": 2, "work": 2, "hand": 3, "ship": 3, "offer": 1, "unpack": 3, "burn": 2, "carry": 3, "lose": 3, "repeat": 3, "stop": 2,
		"crash": 1, "claim": 3, "answer": 2, "refund": 3, "show": 2, "things": 1, "where": 1, "journal": 1, "trial": 1, "roots": 0, "audit": 1, "thing": 2, "layer": 0, "rules": 2, "publish": 1, "money": 1, "goods": 1, "piece": 0}
	after := map[string]string{"claim": " 1", "publish": " x", "money": " x", "goods": " x", "piece": " 1 x"}
	for word, n := range numbered {
		before := ""
		switch word {
		case "arrive", "layer":
			before = "thing 1 1\n"
		case "goods", "piece":
			before = "thing 1 1\nlayer\n"
		}
		bad := strings.Count(before, "\n") + 1
		line := func(number string, at int) string {
			s := before + word
			for i := range n {
				if i == at {
					s += " " + number
				} else {
					s += " 0"
				}
			}
			return s + after[word]
		}
		for _, ending := range []string{"", "\n", "\n\n", "\n#\n"} {
			if _, at, e := desk.Run(line("0", 0) + ending); at != 0 || e != api.OK {
				t.Fatal(line("0", 0), at, e)
			}
		}
		fault(t, before+" "+word, bad)
		fault(t, before+strings.ToUpper(word), bad)
		fault(t, before+word+"x", bad)
		if word != "crash" && after[word] == "" {
			fault(t, line("0", 0)+" 0", bad)
		}
		if after[word] == "" {
			fault(t, line("0", 0)+" ", bad)
			fault(t, line("0", 0)+"\r", bad)
		}
		for i := range n {
			if word != "rules" || i != 1 {
				if _, at, e := desk.Run(line(long, i)); at != 0 || e != api.OK {
					t.Fatal(line(long, i), at, e)
				}
			}
			for _, number := range []string{"", " 0", "00", "01", "-1", "-0", "+1", "a", "1a", "0x1", longer} {
				fault(t, line(number, i), bad)
			}
		}
		if n > 0 {
			short := strings.TrimSuffix(line("0", 0), after[word])
			fault(t, short[:len(short)-2], bad)
		}
	}
}

// The forms that have something of their own.
func TestSpecialForms(t *testing.T) {
	for _, s := range []string{"crash 0 1 -1 0 64 9999999999999999 -9999999999999999", "crash 0", "claim 0 1 1 99", "claim 0 1 1 0", "rules 0 0", "rules 0 1\n", "publish 0 ", "money 0 ", "publish 0  x y ", "#", "# x", "#x\n\n", ""} {
		if s == "rules 0 1\n" {
			s += "\n"
		}
		if _, at, e := desk.Run(s); at != 0 || e != api.OK {
			t.Fatal(s, at, e)
		}
	}
	for _, s := range []string{"crash 0 -0", "crash 0 1  1", "crash 0 1 ", "crash 0 --1", "crash 0 -", "crash 0 -01", "crash 0 01", "crash 0 +1", "crash 0 -10000000000000000", "crash 0 a", "crash -1",
		"claim 0 1 1 100", "claim 0 1 1 01", "claim 0 1 1", "rules 0 1", "rules 0 1\n", "rules 0 2\na\n", "rules 0", "publish 0", "publish", "money 0", " ", " #", "hello", "layer", "piece 1 a", "goods 1 a", "arrive 0 1", "\x00", "day 1\r"} {
		fault(t, s, 1)
	}
	for _, s := range []string{"piece 99 a", "piece 0 a", "piece 1 ", "piece 1 (a|b:1)(c:2|)", "goods 0 ", "goods 3  x", "layer"} {
		if _, at, e := desk.Run("thing 1 1\nlayer\n" + s); at != 0 || e != api.OK {
			t.Fatal(s, at, e)
		}
	}
	for _, s := range []string{"piece 100 a", "piece 01 a", "piece 1", "piece 1 (a)", "piece 1 A", "piece a a", "piece -1 a", "goods 1", "goods 01 x", "goods", "layer ", "thing 1", "thing 1 1 1"} {
		fault(t, "thing 1 1\nlayer\n"+s, 3)
	}
	fault(t, "thing 1 1\npiece 1 a", 2)
	fault(t, "thing 1 1\ngoods 1 a", 2)
	fault(t, "thing 1 1\nlayer\nthing 2 2\npiece 1 a", 4)
	fault(t, "thing 1 1\nlayer\narrive 0 1\nlayer\n", 4)
	fault(t, "thing 1 1\nlayer\narrive 0 1\narrive 0 1\n", 4)
	fault(t, "rules 0 2\nday 01\n\nday 01\n", 4)
	fault(t, "day 1\nrules 0 2\nday 1", 2)
}

// Without a desk, lines do nothing; a desk takes the place of the one before it, if New accepts it.
func TestNoDesk(t *testing.T) {
	lines := "day 1\nrules 0 1\nhello\npublish 0 x\nmoney 0 x\nthing 1 0\nlayer\narrive 0 1\nwork 0 1\nhand 0 1 1\nship 0 1 1\noffer 0\nunpack 0 1 1\nburn 0 1\ncarry 0 1 0\nlose 0 1 0\nrepeat 0 1 0\nstop 0 1\ncrash 0\nclaim 0 1 1 1\nanswer 0 1\nrefund 0 1 1\nshow 0 1\nthings 0\nwhere 1\njournal 0\ntrial 0\nroots\naudit 1\n"
	runs(t, lines, strings.Repeat("none\n", 26))
	runs(t, "desk 9 2000 0\nday 1\ndesk 1 1000 0\nday 5\ndesk 0 1000 0\nday 4\ndesk 1 2000 0\nday 4\n", "error 1\nnone\nok\nok\nerror 1\nerror 7\nok\nok\n")
	runs(t, "", "")
}

// What is paid late, a line for each unit.
func TestPaid(t *testing.T) {
	runs(t, opening+"money 0 unit crown 1\nmoney 0 unit gold coin 1\nmoney 0 term crown 1 3\nmoney 0 term gold coin 1 3\nday 5\nthing 7 5\nlayer\npiece 1 ann lee\nlayer\npiece 2 ayton\ngoods 40 crown\ngoods 3 gold coin\narrive 0 1\nwork 0 7\nday 8\nwork 0 7\nrefund 0 7 1\nrefund 0 7 1\ntrial 0\n",
		strings.Repeat("ok\n", 15)+"verdict 3 0 0 2 0\nok\nverdict 1 1 2 0 0\npaid 2\n38 crown\n2 gold coin\nerror 5\ntrial 6\n1 0 -40 crown\n1 0 -3 gold coin\n3 1 38 crown\n3 1 2 gold coin\n4 0 2 crown\n4 0 1 gold coin\n")
}

// What a crash keeps, also in numbers with a minus sign, is what Crash is told.
func TestCrashes(t *testing.T) {
	for calls := range 12 {
		for _, keep := range []string{"", strings.Repeat(" 64", 20), strings.Repeat(" -64", 20), " 64 -64 64", " -1 64"} {
			script := fmt.Sprintf("desk 1 1000 0\nstop 0 %d\nclaim 0 1 7 1\ncrash 0%s\njournal 0\n", calls, keep)
			want, _, _ := interpret(script)
			runs(t, script, want)
		}
	}
}

// A script may have 20000 bytes.
func TestLongScripts(t *testing.T) {
	runs(t, strings.Repeat("\n", 20000), "")
	runs(t, "#"+strings.Repeat("x", 19999), "")
	got, line, e := desk.Run(strings.Repeat("\n", 20001))
	fails(t, "a script", e, api.ErrLimit, got, line)
	got, line, e = desk.Run("x" + strings.Repeat("\n", 20000))
	fails(t, "a script", e, api.ErrLimit, got, line)
}

// scriptLine returns a line, or several ones that belong together.
func scriptLine(r *rand.Rand) string {
	o := func() int { return pick(r, 0, 0, 0, 1, 1, 2) }
	id := func() int { return 1 + r.Intn(3) }
	room := func() int { return pick(r, 1, 2, 3, 9) }
	if r.Intn(4) == 0 {
		return fmt.Sprintf(pick(r, "show %d %d", "show %d %d")+"\n", o(), room())
	}
	return pick(r,
		fmt.Sprintf("day %d", r.Intn(9)), "\n# x\n", fmt.Sprintf("rules %d 2\n%s", o(), strings.TrimSuffix(openRules, "\n")), fmt.Sprintf("rules %d 1\nhello", o()),
		fmt.Sprintf("publish %d %s", o(), someLine(r, r.Intn(9))), fmt.Sprintf("money %d %s", o(), someMoney(r)),
		fmt.Sprintf("work %d %d", o(), id()), fmt.Sprintf("work 0 %d", id()), fmt.Sprintf("work 0 %d", id()), fmt.Sprintf("work 1 %d\nwork 1 %d", id(), id()),
		fmt.Sprintf("hand %d %d %d", o(), id(), room()), fmt.Sprintf("ship %d %d %d", o(), id(), o()), fmt.Sprintf("ship 0 %d 1\noffer 0", id()), fmt.Sprintf("offer %d", o()),
		fmt.Sprintf("unpack %d %d %d", o(), id(), room()), fmt.Sprintf("unpack 1 %d 2", id()), fmt.Sprintf("burn %d %d", o(), id()), fmt.Sprintf("carry %d %d %d", o(), o(), r.Intn(2)), "carry 0 1 0", "carry 1 0 0",
		fmt.Sprintf("lose %d %d %d", o(), o(), r.Intn(2)), fmt.Sprintf("repeat %d %d %d", o(), o(), r.Intn(2)), fmt.Sprintf("stop %d %d", o(), r.Intn(30)), fmt.Sprintf("crash %d", o()), fmt.Sprintf("crash %d %d -3 64", o(), r.Intn(64)),
		fmt.Sprintf("claim %d %d %d %d", o(), 1+r.Intn(4), id(), 1+r.Intn(4)), fmt.Sprintf("answer %d %d", o(), id()), fmt.Sprintf("refund %d %d %d", o(), id(), 1+r.Intn(4)),
		fmt.Sprintf("things %d", o()), fmt.Sprintf("where %d", id()), fmt.Sprintf("journal %d", o()), fmt.Sprintf("trial %d", o()), "roots", fmt.Sprintf("audit %d", id()),
		fmt.Sprintf("thing %d %d\nlayer\npiece 1 ann lee\nlayer\npiece 2 ay(t|f:1)on\npiece %d \ngoods 3 crown\nlayer\narrive %d %d", id(), r.Intn(3), 1+r.Intn(8), o(), room()),
		fmt.Sprintf("thing %d 0\nlayer\nlayer\npiece 4 bob lee\npiece 1 cat\ngoods %d mark\narrive 0 1", id(), 1+r.Intn(3))) + "\n"
}

// P9.8: any scripts, right ones and spoilt ones, compared with what the methods return; and what a script prints begins with what its first lines print.
func TestRandomScripts(t *testing.T) {
	for part := range int64(8) {
		t.Run(fmt.Sprint(part), func(t *testing.T) {
			t.Parallel()
			for seed := range int64(50) {
				compareScripts(t, rand.New(rand.NewSource(50*part+seed)))
			}
		})
	}
}

func compareScripts(t *testing.T, r *rand.Rand) {
	t.Helper()
	script := ""
	if r.Intn(10) > 0 {
		script = strings.TrimPrefix(strings.Replace(opening, "65536", pick(r, "1000", "65536"), 1), pick(r, "", "", "", "desk 2 65536 0\n")) + "publish 0 people 0 name 3 0 0 bob lee\npublish 0 people 0 live 3 2 0 0\nmoney 0 unit crown 1\nmoney 0 term crown 1 2\nmoney 0 unit mark 1\nmoney 1 unit crown 1\nrules 1 2\n" + openRules
	}
	var parts []string
	for range 30 {
		parts = append(parts, scriptLine(r))
	}
	whole := script + strings.Join(parts, "")
	isSpoilt := r.Intn(4) == 0
	if isSpoilt {
		whole = spoiltText(r, whole)
	}
	got, line, e := desk.Run(whole)
	want, wantLine, wantErr := interpret(whole)
	same(t, whole, e, wantErr)
	same(t, whole, line, wantLine)
	same(t, whole, got, want)
	if isSpoilt {
		return
	}
	first, _, e := desk.Run(script + strings.Join(parts[:r.Intn(30)], ""))
	same(t, "the first lines", e, api.OK)
	if !strings.HasPrefix(got, first) {
		t.Fatalf("%s prints %s, and its first lines %s", whole, got, first)
	}
}

// spoiltText returns a text of which a part is changed.
func spoiltText(r *rand.Rand, s string) string {
	at := r.Intn(len(s) + 1)
	switch r.Intn(5) {
	case 0:
		return s[:at]
	case 1:
		return s[:at] + pick(r, "0", " ", "\n", "-", "+", "a", "1", "/", "\x00", "\xff", "5 ", "#") + s[at:]
	case 2:
		return s[:at] + s[min(at+1, len(s)):]
	case 3:
		return s[:at] + pick(r, "0", " ", "\n", "9", "a", "/") + s[min(at+1, len(s)):]
	}
	lines := strings.SplitAfter(s, "\n")
	i := r.Intn(len(lines))
	return strings.Join(append(append(append([]string{}, lines[:i]...), pick(r, lines...)), lines[i+r.Intn(2):]...), "")
}
