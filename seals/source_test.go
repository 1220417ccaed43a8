package seals_test

import (
	"fmt"
	"math/rand"
	"slices"
	"strconv"
	"strings"
	"testing"

	"restante/api"
	"restante/seals"
)

// faultOf returns the fault of a source as text: the error, the line and the byte.
func faultOf(t *testing.T, src string) string {
	t.Helper()
	r, fault := seals.Parse(src)
	if fault.Err != api.OK {
		equal(t, src, r, api.Rules{})
	}
	return fmt.Sprintf("%d %d %d", fault.Err, fault.Line, fault.At)
}

const head = "weights 1 2 3\n"

// D1: the first fault of each source.
func TestFaults(t *testing.T) {
	w24, w25 := strings.Repeat("w", 24), strings.Repeat("w", 25)
	for _, x := range []struct{ src, want string }{
		// sources without any line
		{"", "4 1 0"}, {"\n", "4 1 0"}, {" \t\n\n# weights 1 2 3\n\t#", "4 1 0"}, {"#", "4 1 0"},
		{strings.Repeat("\n", 4000), "4 1 0"}, {strings.Repeat("\n", 4001), "2 0 0"}, {head + strings.Repeat("#", 4000-len(head)), "0 0 0"}, {head + strings.Repeat("#", 4001-len(head)), "2 0 0"},
		// the first form
		{"weights 0 1000 0", "0 0 0"}, {"weights 1 2 3", "0 0 0"}, {"\tweights\t1  2 3 \t", "0 0 0"}, {"\n\n # a\n weights 1 2 3#b", "0 0 0"}, {"weights 1 2 3\n\n\n", "0 0 0"},
		{"weights", "4 1 7"}, {"weights ", "4 1 8"}, {"weights 1 2", "4 1 11"}, {"weights 1 2 # 3", "4 1 12"}, {"weights 1 2 3 4", "4 1 14"}, {"weights 1 2 3 weights", "4 1 14"},
		{"weights1 2 3", "4 1 0"}, {"Weights 1 2 3", "4 1 0"}, {"weight 1 2 3", "4 1 0"}, {"1", "4 1 0"}, {"\n\n  rule a rank 1: open 1 if always", "4 3 2"}, {"weights a 2 3", "4 1 8"},
		{"weights 1 2 -3", "4 1 12"}, {"weights 1 2 +3", "4 1 12"}, {"weights 01 2 3", "4 1 8"}, {"weights 1 00 3", "4 1 10"}, {"weights 1 2 3a", "4 1 12"}, {"weights 1 2 3.", "4 1 13"},
		{"weights 1001 2 3", "1 1 8"}, {"weights 1 1001 3", "1 1 10"}, {"weights 1 2 1001", "1 1 12"}, {"weights 1001 1001 1001", "1 1 8"}, {"weights 1 1001 1001", "1 1 10"},
		{"weights 999999999 2 3", "1 1 8"}, {"weights 1000000000 2 3", "4 1 8"}, {"weights 1001 2 3 4", "4 1 17"}, {"weights 1001 2", "4 1 14"},
		{"weights 1001 2 3\nrule", "1 1 8"}, {"weights 1 2 3\r\n", "4 1 13"}, {"weights 1 2\u00a03", "4 1 11"}, {"weights 1 2 3\x00", "4 1 13"}, {"\xff\xfe", "4 1 0"}, {"weights 1 2 3 #\xff", "0 0 0"},
		// the second form, token by token
		{head + "weights 1 2 3", "4 2 0"}, {head + "rule", "4 2 4"}, {head + "rule a", "4 2 6"}, {head + "rule a rank", "4 2 11"}, {head + "rule a rank 1", "4 2 13"}, {head + "rule a rank 1:", "4 2 14"},
		{head + "rule a rank 1: open", "4 2 19"}, {head + "rule a rank 1: open 1", "4 2 21"}, {head + "rule a rank 1: open 1 if", "4 2 24"}, {head + "rule a rank 1: open 1 if always", "0 0 0"},
		{head + "  ruel a", "4 2 2"}, {head + "rule 1", "4 2 5"}, {head + "rule -a", "4 2 5"}, {head + "rule A", "4 2 5"}, {head + "rule ( rank", "4 2 5"}, {head + "rule a runk 1", "4 2 7"}, {head + "rule a rank a", "4 2 12"},
		{head + "rule " + w24 + " rank 1: open 1 if always", "0 0 0"}, {head + "rule " + w25 + " rank 1: open 1 if always", "4 2 5"}, {head + "rule a-9 rank 1: open 1 if always", "0 0 0"},
		{head + "rule if rank 1: open 1 if always", "0 0 0"}, {head + "rule rule rank 1: open 1 if always", "0 0 0"},
		{head + "rule a rank 1 open 1", "4 2 14"}, {head + "rule a rank 1:: open", "4 2 14"}, {head + "rule a rank 1: opens 1", "4 2 15"}, {head + "rule a rank 1: leave any if always", "0 0 0"}, {head + "rule a rank 1: leave 2 if always", "0 0 0"},
		{head + "rule a rank 1: open 0 if always", "4 2 20"}, {head + "rule a rank 1: open 4 if always", "4 2 20"}, {head + "rule a rank 1: open all if always", "4 2 20"}, {head + "rule a rank 1: open if always", "4 2 20"}, {head + "rule a rank 1: open 01 if", "4 2 20"},
		{head + "rule a rank 1: open 3if always", "4 2 20"}, {head + "rule a rank 1: open 3 always", "4 2 22"}, {head + "rule a rank 1:open 3 if always", "0 0 0"}, {head + "rule a rank 1 : open 3 if always", "0 0 0"},
		// numbers
		{head + "rule a rank 0: open 1 if always", "1 2 12"}, {head + "rule a rank 99: open 1 if always", "0 0 0"}, {head + "rule a rank 100: open 1 if always", "1 2 12"}, {head + "rule a rank 0: open 1 if room 9", "1 2 12"},
		{head + "rule a rank 0: open 1 if", "4 2 24"}, {head + "rule a rank 0: open 1 if room", "4 2 29"},
		// all limits of a line that has its form, from the left
		{head + "rule a rank 1: open 1 if claim\nrule a rank 0: open 1 if room 0", "6 3 5"}, {head + "rule a rank 1: open 1 if claim\nrule b rank 0: open 1 if room 0", "1 3 12"},
		{head + "rule a rank 1: open 1 if claim\nrule a rank 0: open 1 if room", "4 3 29"}, {head + "rule a rank 1: open 1 if room 0\nrule a", "1 2 30"}, {head + "rule a rank 1: open 1 if claim\n\n#\n rule a rank 1: open 1 if claim", "6 5 6"},
		{head + "rule a rank 1: open 1 if days < 100001 and room 9", "1 2 32"}, {head + "rule a rank 1: open 1 if not not not not not not room 9", "2 2 22"}, {head + "rule a rank 100: open 1 if not not not not not not room 9", "1 2 12"},
	} {
		same(t, fmt.Sprintf("Parse of %.200q", x.src), faultOf(t, x.src), x.want)
		_, fault := parseOf(x.src)
		same(t, fmt.Sprintf("the oracle for %.200q", x.src), fmt.Sprintf("%d %d %d", fault.Err, fault.Line, fault.At), x.want)
	}
}

// D1: conditions; the byte is counted from the beginning of the condition.
func TestFaultsOfConditions(t *testing.T) {
	begin := "rule a rank 1: open 1 if "
	deep := func(n int) string { return strings.Repeat("not (", n) + "claim" + strings.Repeat(")", n) }
	for _, x := range []struct {
		c  string
		e  api.Errno
		at int
	}{
		{"always", 0, 0}, {"claim", 0, 0}, {"room 1", 0, 0}, {"room 8", 0, 0}, {"days < 0", 0, 0}, {"days>=100000", 0, 0}, {"addressees none", 0, 0}, {"senders many", 0, 0}, {"senders one", 0, 0}, {"days<5", 0, 0},
		{"room 0", api.ErrArg, 5}, {"room 9", api.ErrArg, 5}, {"days < 100001", api.ErrArg, 7}, {"days >= 100001", api.ErrArg, 8}, {"days>= 999999999", api.ErrArg, 7}, {"room 1 and room 0 and room 9", api.ErrArg, 16},
		{"never", api.ErrForm, 0}, {"room", api.ErrForm, 4}, {"room a", api.ErrForm, 5}, {"days", api.ErrForm, 4}, {"days 5", api.ErrForm, 5}, {"days = 5", api.ErrForm, 5}, {"days <= 5", api.ErrForm, 6}, {"days > 5", api.ErrForm, 5}, {"days > = 5", api.ErrForm, 5},
		{"days >== 5", api.ErrForm, 7}, {"days >= a", api.ErrForm, 8}, {"days =< 5", api.ErrForm, 5}, {"days < -5", api.ErrForm, 7}, {"days < 05", api.ErrForm, 7}, {"days < 1000000000", api.ErrForm, 7},
		{"addressees", api.ErrForm, 10}, {"addressees 1", api.ErrForm, 11}, {"addressees two", api.ErrForm, 11}, {"senders", api.ErrForm, 7}, {"senders addressees", api.ErrForm, 8}, {"claim one", api.ErrForm, 6},
		{"claim and", api.ErrForm, 9}, {"claim or", api.ErrForm, 8}, {"and claim", api.ErrForm, 0}, {"or claim", api.ErrForm, 0}, {"claim claim", api.ErrForm, 6}, {"claim and or claim", api.ErrForm, 10}, {"claim not claim", api.ErrForm, 6}, {"claim and not claim", 0, 0},
		{"not", api.ErrForm, 3}, {"not not claim", 0, 0}, {"notclaim", api.ErrForm, 0}, {"not(claim)", 0, 0}, {"not and", api.ErrForm, 4}, {"claim,", api.ErrForm, 5}, {"claim # or", 0, 0}, {"claim or # claim", api.ErrForm, 9},
		{"()", api.ErrForm, 1}, {"(claim", api.ErrForm, 6}, {"claim)", api.ErrForm, 5}, {"(claim))", api.ErrForm, 7}, {"((claim)", api.ErrForm, 8}, {"(claim", api.ErrForm, 6}, {"(claim and)", api.ErrForm, 10}, {"(claim)(claim)", api.ErrForm, 7}, {")", api.ErrForm, 0}, {"(claim) claim", api.ErrForm, 8},
		{"(claim", api.ErrForm, 6}, {"claim if claim", api.ErrForm, 6}, {"claim: claim", api.ErrForm, 5}, {"claim < 5", api.ErrForm, 6}, {"room 1 2", api.ErrForm, 7}, {"CLAIM", api.ErrForm, 0},
		{deep(5), 0, 0}, {deep(6), api.ErrLimit, -3}, {strings.Repeat("(", 1900) + "claim" + strings.Repeat(")", 1900), 0, 0}, {strings.Repeat("(", 3900), api.ErrForm, 3900}, {strings.Repeat("not ", 900) + "claim", api.ErrLimit, -3}, {strings.Repeat("not ", 900), api.ErrForm, 3600},
		{"claim" + strings.Repeat(" or claim", 38), 0, 0}, {"claim" + strings.Repeat(" or claim", 39), api.ErrLimit, -3}, {"room 9" + strings.Repeat(" and claim", 39), api.ErrLimit, -3}, {"room 9" + strings.Repeat(" and claim", 38), api.ErrArg, 5},
		{"not (claim" + strings.Repeat(" or claim", 37) + ")", 0, 0}, {"not (claim" + strings.Repeat(" or claim", 38) + ")", api.ErrLimit, -3}, {"claim" + strings.Repeat(" and claim", 39) + " and", api.ErrForm, 399},
	} {
		want := "0 0 0"
		if x.e != api.OK {
			want = fmt.Sprintf("%d 2 %d", x.e, len(begin)+x.at)
		}
		same(t, fmt.Sprintf("Parse of %.100q", x.c), faultOf(t, head+begin+x.c), want)
		_, fault := parseOf(head + begin + x.c)
		same(t, fmt.Sprintf("the oracle for %.100q", x.c), fmt.Sprintf("%d %d %d", fault.Err, fault.Line, fault.At), want)
	}
}

// D1: the limit of rules, and that of the source.
func TestFaultsOfManyRules(t *testing.T) {
	lines := func(n int) string {
		text := head
		for i := range n {
			text += fmt.Sprintf("rule r%d rank 1: open 1 if always\n", i)
		}
		return text
	}
	same(t, "40 rules", faultOf(t, lines(40)), "0 0 0")
	same(t, "41 rules", faultOf(t, lines(41)), "2 42 0")
	same(t, "the 41st is not new, and more", faultOf(t, lines(40)+"  rule r7 rank 0: open 1 if room 9\nrule"), "2 42 2")
	same(t, "the 41st has not the form", faultOf(t, lines(40)+"rule r7 rank 0: open 1 if room"), "4 42 30")
	same(t, "comments behind 40 rules", faultOf(t, lines(40)+"\n# rule\n"), "0 0 0")
}

// D1: what the rules of a source are.
func TestParse(t *testing.T) {
	condition := func(text string) api.Cond {
		r := parsed(t, head+"rule a rank 1: open 1 if "+text)
		return r.List[0].If
	}
	a, b, c := node(7, 0), node(1, 0), node(2, 3)
	for text, want := range map[string]api.Cond{
		"always": node(1, 0), "room 3": node(2, 3), "days < 4": node(3, 4), "days >= 5": node(4, 5), "addressees none": node(5, 0), "addressees one": node(5, 1), "addressees many": node(5, 2),
		"senders none": node(6, 0), "senders one": node(6, 1), "senders many": node(6, 2), "claim": node(7, 0), "not claim": with(8, a), "not not claim": with(8, with(8, a)), "((claim))": a,
		"claim and always": with(9, a, b), "claim or always": with(10, a, b), "claim and always and room 3": with(9, a, b, c), "claim or always or room 3": with(10, a, b, c),
		"claim and always or room 3": with(10, with(9, a, b), c), "claim or always and room 3": with(10, a, with(9, b, c)), "(claim or always) and room 3": with(9, with(10, a, b), c),
		"claim and (always and room 3)": with(9, a, with(9, b, c)), "(claim and always) and room 3": with(9, with(9, a, b), c), "(claim and always) or room 3": with(10, with(9, a, b), c), "(claim or always) or room 3": with(10, with(10, a, b), c),
		"not claim and always": with(9, with(8, a), b), "not (claim and always)": with(8, with(9, a, b)), "not (claim) or always": with(10, with(8, a), b), "(not claim)": with(8, a),
	} {
		equal(t, text, condition(text), want)
	}
	r := parsed(t, "\n#\n weights 0 20 60 # the weights\n\n\trule cover rank 1 : open 1 if always# a\n#rule no rank\nrule early rank 99: leave 3 if claim\nrule all rank 2: open any if claim\n   ")
	equal(t, "the rules", r, api.Rules{Weights: [3]int{0, 20, 60}, List: []api.Rule{
		{Name: "cover", Rank: 1, Layer: 1, Open: true, If: node(1, 0)}, {Name: "early", Rank: 99, Layer: 3, If: node(7, 0)}, {Name: "all", Rank: 2, Open: true, If: node(7, 0)}}})
}

// randomSource returns a source, mostly of valid rules, with any blanks, comments and empty lines.
func randomSource(r *rand.Rand) string {
	blank := func() string { return pick(r, " ", " ", " ", "\t", "  ", " \t") }
	end := func() string { return pick(r, "\n", "\n", " \n", "# a\n", "#\n\n", "\n \t\n", "\n# rule\n") }
	rules := randomRules(r, r.Intn(4), 99)
	text := pick(r, "", "", "\n", "#\n") + fmt.Sprintf("weights%s%d%s%d%s%d", blank(), rules.Weights[0], blank(), rules.Weights[1], blank(), rules.Weights[2]) + end()
	for _, x := range rules.List {
		if r.Intn(12) == 0 {
			x.Name, x.If = "r0", randomCond(r, 7)
		}
		tokens := []string{"rule", x.Name, "rank", strconv.Itoa(x.Rank), ":", pick(r, "open", "leave"), pick(r, "1", "2", "3", "any"), "if"}
		for _, token := range append(tokens, tokensOf(x.If)...) {
			text += token + blank()
		}
		text += end()
	}
	return text
}

// spoiltSource changes a token or a few bytes of a source.
func spoiltSource(r *rand.Rand, src string) string {
	tokens := []string{"weights", "rule", "a", "r0", "rank", ":", "open", "leave", "any", "if", "and", "or", "not", "(", ")", "<", ">=", "room", "days", "claim", "always", "senders", "one", "0", "1", "3", "9", "100", "1001", "100001", "07", "=", ">", "#", "\n", "A", "\r", "\xff", "é", "rule a rank 1: open 1 if claim\n"}
	for range 1 + r.Intn(2) {
		words := strings.Split(src, " ")
		i := r.Intn(len(words))
		switch r.Intn(5) {
		case 0:
			words = slices.Delete(words, i, i+1)
		case 1:
			words[i] = pick(r, tokens...)
		case 2:
			words = slices.Insert(words, i, pick(r, tokens...))
		case 3:
			words[i] += pick(r, tokens...)
		case 4:
			words = words[:i]
		}
		src = strings.Join(words, " ")
	}
	return src
}

// D1, against the oracle.
func TestParseAgainstTheOracle(t *testing.T) {
	r := rand.New(rand.NewSource(6))
	met := map[api.Errno]int{}
	for i := range 20000 {
		src := randomSource(r)
		if i%4 > 0 {
			src = spoiltSource(r, src)
		}
		rules, fault := parseOf(src)
		met[fault.Err]++
		got, f := seals.Parse(src)
		same(t, fmt.Sprintf("Parse of %q", src), f, fault)
		equal(t, fmt.Sprintf("Parse of %q", src), got, rules)
		if f.Err == api.OK {
			same(t, "CheckRules", seals.CheckRules(got), api.OK)
		}
	}
	for _, e := range []api.Errno{api.OK, api.ErrArg, api.ErrForm, api.ErrTwice, api.ErrLimit} {
		if met[e] < 20 {
			t.Errorf("only %d sources with the error %d", met[e], e)
		}
	}
}

// D1: any bytes.
func TestParseOfAnyBytes(t *testing.T) {
	r := rand.New(rand.NewSource(7))
	for range 20000 {
		src := pick(r, "", head, "weights 1 2 ", head+"rule a rank 1: open 1 if ", head+"rule a rank 1: open 1 if days ")
		for range r.Intn(6) {
			src += string([]byte{pick(r, ' ', '\n', '#', ':', '(', ')', '<', '>', '=', 'a', '7', '0', '-', 'Z', '\t', '\r', 0, 0x80, byte(r.Intn(256)))})
		}
		_, fault := parseOf(src)
		_, f := seals.Parse(src)
		same(t, fmt.Sprintf("Parse of %q", src), f, fault)
	}
}

// D2, P4.3.
func TestPrintAndParse(t *testing.T) {
	r := rand.New(rand.NewSource(8))
	met := map[string]int{}
	for range 5000 {
		rules := randomRules(r, r.Intn(5), 99)
		if r.Intn(4) == 0 {
			rules = spoiltRules(r, rules)
		}
		text := seals.Print(rules)
		same(t, fmt.Sprintf("Print of %+v", rules), text, printOf(rules))
		if text == "" || len(text) > 4000 {
			met["other"]++
			continue
		}
		met["valid"]++
		equal(t, "Parse of "+text, parsed(t, text), rules)
	}
	if met["valid"] < 1000 || met["other"] < 100 {
		t.Errorf("only these sources: %v", met)
	}
	for range 1000 {
		rules, _ := seals.Parse(randomSource(r))
		if text := seals.Print(rules); len(text) <= 4000 {
			equal(t, "Parse of "+text, parsed(t, text), rules)
		}
	}
}

// D2, form by form.
func TestPrint(t *testing.T) {
	same(t, "the examples", seals.Print(parsed(t, source)), source)
	same(t, "no rules", seals.Print(api.Rules{Weights: [3]int{1000, 0, 7}}), "weights 1000 0 7\n")
	same(t, "not valid", seals.Print(api.Rules{Weights: [3]int{1001}}), "")
	for text, want := range map[string]string{
		"((claim))": "claim", "not(claim)": "not claim", "(claim or claim) or claim": "(claim or claim) or claim", "(claim and claim) or claim": "claim and claim or claim", "(claim and claim) and claim": "(claim and claim) and claim",
		"claim and(claim or claim)": "claim and (claim or claim)", "not (claim or claim)": "not (claim or claim)", "not (claim and claim)": "not (claim and claim)", "not (not claim)": "not not claim", "(not claim) and claim": "not claim and claim",
		"days<5": "days < 5", "days>=0": "days >= 0", "addressees   none": "addressees none", "senders many": "senders many", "((claim or claim) or claim) and claim": "((claim or claim) or claim) and claim", "room 3": "room 3", "always": "always",
	} {
		same(t, text, seals.Print(parsed(t, head+"rule a rank 7: leave any if "+text)), head+"rule a rank 7: leave any if "+want+"\n")
	}
	long := randomRules(rand.New(rand.NewSource(9)), 40, 99)
	for i := range long.List {
		long.List[i].If = wide(40)
	}
	same(t, "a source that is too long", seals.Print(long), printOf(long))
	same(t, "a source that is too long", len(printOf(long)) > 4000, true)
}
