package custody_test

import (
	"fmt"
	"math"
	"math/rand"
	"regexp"
	"slices"
	"strconv"
	"testing"

	"restante/api"
	"restante/custody"
)

func token(id int, body string) api.Token { return api.Token{Id: id, Body: body} }

func bag(from, to, seq int, tokens ...api.Token) api.Bag {
	return api.Bag{From: from, To: to, Seq: seq, Tokens: tokens}
}

// plainBag returns the text of a bag, whether it is valid or not.
func plainBag(b api.Bag) string {
	text := fmt.Sprintf("bag %d %d %d\n", b.From, b.To, b.Seq)
	for _, t := range b.Tokens {
		text += fmt.Sprintf("%d %d\n%s\n", t.Id, len(t.Body), t.Body)
	}
	return text
}

func isPlainBag(b api.Bag) bool {
	if min(b.From, b.To) < 0 || max(b.From, b.To) > 7 || b.From == b.To || b.Seq < 1 || b.Seq > 1000000 || len(b.Tokens) < 1 || len(b.Tokens) > 8 {
		return false
	}
	last := 0
	for _, t := range b.Tokens {
		if t.Id <= last || t.Id > 1000000 || len(t.Body) > 6000 {
			return false
		}
		last = t.Id
	}
	return true
}

var (
	headForm  = regexp.MustCompile(`^(bag|got) (0|[1-9][0-9]{0,6}) (0|[1-9][0-9]{0,6}) (0|[1-9][0-9]{0,6})\n`)
	tokenForm = regexp.MustCompile(`^(0|[1-9][0-9]{0,6}) (0|[1-9][0-9]{0,6})\n`)
)

// readPlain reads a message: its first word, and the bag or what an acknowledgement says; it reports whether there is one.
func readPlain(m string) (string, api.Bag, bool) {
	head := headForm.FindStringSubmatch(m)
	if head == nil {
		return "", api.Bag{}, false
	}
	number := func(word string) int {
		n, _ := strconv.Atoi(word)
		return n
	}
	b := bag(number(head[2]), number(head[3]), number(head[4]))
	for m = m[len(head[0]):]; m != ""; {
		line := tokenForm.FindStringSubmatch(m)
		if line == nil {
			return "", api.Bag{}, false
		}
		m = m[len(line[0]):]
		n := number(line[2])
		if n >= len(m) || m[n] != '\n' {
			return "", api.Bag{}, false
		}
		b.Tokens = append(b.Tokens, token(number(line[1]), m[:n]))
		m = m[n+1:]
	}
	if head[1] == "bag" {
		return "bag", b, isPlainBag(b)
	}
	got := b
	got.Tokens = []api.Token{token(1, "")}
	return "got", b, len(b.Tokens) == 0 && isPlainBag(got)
}

func sameBag(t *testing.T, what string, got, want api.Bag) {
	t.Helper()
	same(t, what, fmt.Sprint(got.From, got.To, got.Seq), fmt.Sprint(want.From, want.To, want.Seq))
	equal(t, what, got.Tokens, want.Tokens)
}

// The examples of the chapter.
func TestMessageExamples(t *testing.T) {
	m, e := custody.PutBag(bag(0, 1, 3, token(7, "ab")))
	same(t, "PutBag", fmt.Sprint(m, e), "bag 0 1 3\n7 2\nab\n0")
	b, e := custody.GetBag("bag 0 1 03\n")
	same(t, "GetBag", fmt.Sprint(b, e), "{0 0 0 []} 4")
}

// G13: bags with all kinds of fields.
func TestPutBag(t *testing.T) {
	numbers := []int{math.MinInt, -1, 0, 1, 7, 8, 1000000, 1000001, math.MaxInt}
	valid := 0
	check := func(b api.Bag) {
		t.Helper()
		m, e := custody.PutBag(b)
		if !isPlainBag(b) {
			same(t, fmt.Sprint("PutBag of ", b), fmt.Sprint(m, e), "1")
			_, e := custody.GetBag(plainBag(b))
			same(t, "GetBag", e, api.ErrForm)
			return
		}
		valid++
		same(t, "PutBag", e, api.OK)
		same(t, "the text", m, plainBag(b))
		back, e := custody.GetBag(m)
		same(t, "GetBag", e, api.OK)
		sameBag(t, "the bag", back, b)
	}
	for _, from := range numbers {
		for _, to := range numbers {
			for _, seq := range numbers {
				check(bag(from, to, seq, token(7, "ab")))
			}
		}
	}
	for _, id := range numbers {
		check(bag(0, 1, 1, token(id, "")))
		for _, next := range numbers {
			check(bag(7, 0, 1, token(id, "a"), token(next, "b")))
			check(bag(3, 0, 1, token(1, ""), token(id, "a"), token(next, "b")))
		}
	}
	var tokens []api.Token
	check(bag(0, 1, 1))
	for i := range 10 {
		tokens = append(tokens, token(999990+i, noise(int64(i), 6000)))
		check(bag(0, 1, 1000000, tokens...))
	}
	check(bag(0, 1, 1, token(1, noise(1, 6001))))
	if valid < 40 {
		t.Errorf("only %d valid bags", valid)
	}
}

// texts are texts of bags, and some that are nearly such texts.
func texts() []string {
	list := []string{"", "\n", "bag", "bag \n", "bag 0 1 3", "bag 0 1 3\n", "got 0 1 3\n", "got 0 1 3", "bag 0 1 3\n7 2\nab", "bag 0 1 3\n7 2\nab\n\n", "bag  0 1 3\n7 2\nab\n",
		" bag 0 1 3\n7 2\nab\n", "bag 0 1 3 \n7 2\nab\n", "bag 0 1 3\n7 2 \nab\n", "bag 0 1 3\r\n7 2\nab\n", "bag 0 1 3\n7 1\nab\n", "bag 0 1 3\n7 3\nab\n", "bag 0 1 3\n7 4\nab\n",
		"bag 0 1 3\n7 -1\nab\n", "bag 0 1 3\n7 +2\nab\n", "bag +0 1 3\n7 2\nab\n", "bag -0 1 3\n7 2\nab\n", "bag 0 1 3\n07 2\nab\n", "bag 0 1 3\n7 02\nab\n", "bag 00 1 3\n7 2\nab\n",
		"bag 0 1 3\n7 9223372036854775807\nab\n", "bag 0 1 3\n7 18446744073709551618\nab\n", "bag 0 1 18446744073709551619\n7 2\nab\n", "bag 0 1 3\n-7 2\nab\n", "bag 0 1 -3\n7 2\nab\n",
		"bag 0 1 0x3\n7 2\nab\n", "bag 0 1 1_0\n7 2\nab\n", "BAG 0 1 3\n7 2\nab\n", "bag 0 1 3\n7 2\nab\n8", "bag 0 1 3\n7 2\nab\n8 0\n", "got 0 1 3\n7 2\nab\n", "got 0 0 3\n", "got 0 8 3\n", "got 0 1 0\n",
		"got 0 1 1000001\n", "got 0 1 1000000\n", "got 0 1 03\n", "got 0 1 3\n\n", "bag 0 1 3\n٧ 2\nab\n", "bag 0 1 3\n\n", "got\n", "got 0 1\n", "got 0 1 3 4\n", "bag 0 1 3 4\n7 2\nab\n"}
	return append(list, bagTexts()...)
}

// bagTexts are texts of bags.
func bagTexts() []string {
	var list []string
	for _, b := range []api.Bag{bag(0, 1, 3, token(7, "ab")), bag(7, 2, 999999, token(1, ""), token(2, "\n\n"), token(10, "7 2\nab\n")), bag(1, 0, 10, token(1000000, "bag 0 1 3\n7 2\nab\n")), bag(5, 6, 1, token(1, "1"), token(2, "2"), token(3, "3"), token(4, "4"), token(5, ""), token(6, ""), token(7, ""), token(8, ""))} {
		list = append(list, plainBag(b))
	}
	return list
}

// G13, P7.5: GetBag finds the bags that have a text, and no others.
func TestGetBagLikeItsOracle(t *testing.T) {
	r := rand.New(rand.NewSource(1))
	list, met := append(texts(), slices.Repeat(bagTexts(), 20)...), 0
	for i := range 60000 {
		m := list[i%len(list)]
		if i >= len(list) {
			m = mutant(r, list)
		}
		word, want, ok := readPlain(m)
		b, e := custody.GetBag(m)
		if !ok || word != "bag" {
			same(t, fmt.Sprintf("GetBag(%q)", m), fmt.Sprint(b, e), "{0 0 0 []} 4")
			continue
		}
		met++
		same(t, fmt.Sprintf("GetBag(%q)", m), e, api.OK)
		sameBag(t, "the bag", b, want)
		text, e := custody.PutBag(b)
		same(t, "PutBag", text+fmt.Sprint(e), m+"0")
	}
	if met < 2000 {
		t.Errorf("only %d bags", met)
	}
}

// mutant changes a text at few places.
func mutant(r *rand.Rand, list []string) string {
	m := []byte(pick(r, list...))
	for range 1 + r.Intn(2) {
		at := r.Intn(len(m) + 1)
		sign := pick(r, '0', '1', '2', '7', '9', ' ', '\n', '-', '+', 'b', byte(r.Intn(256)))
		switch r.Intn(5) {
		case 0:
			m = slices.Insert(m, at, sign)
		case 1:
			m = slices.Delete(m, at, min(len(m), at+1+r.Intn(2)))
		case 2:
			m = append(m, pick(r, list...)...)
		default:
			if at < len(m) {
				m[at] = sign
			}
		}
	}
	return string(m)
}

// G17: Hear takes bags and acknowledgements, and nothing else.
func TestHearLikeItsOracle(t *testing.T) {
	r := rand.New(rand.NewSource(2))
	list := append(texts(), slices.Repeat([]string{"got 1 0 1\n", "got 7 0 1000000\n", "bag 1 0 1\n7 0\n\n", "bag 2 0 2\n7 5\nab\ncd\n"}, 10)...)
	met := map[api.Errno]int{}
	for i := range 3000 {
		m := list[i%len(list)]
		if i >= len(list) {
			m = mutant(r, list)
		}
		o, p := start(t, newDisk(t, 700), 0), newPlainOffice(0)
		for _, x := range []call{enter(3, "three", ""), ship(1, "", 3)} {
			both(t, o, p, x)
		}
		before := textOfHouse(o)
		e := both(t, o, p, hear(m, "note"))
		same(t, "the office", textOfHouse(o), textOfHouse(p))
		if _, _, ok := readPlain(m); !ok {
			same(t, fmt.Sprintf("Hear(%q)", m), e, api.ErrForm)
			same(t, "the office", textOfHouse(o), before)
		}
		met[e]++
	}
	for _, e := range []api.Errno{api.OK, api.ErrForm, api.ErrArg} {
		if met[e] < 25 {
			t.Errorf("only %d messages with the error %d", met[e], e)
		}
	}
}
