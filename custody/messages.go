package custody

import (
	"strconv"
	"strings"

	"restante/api"
)

// The first words of messages.
const (
	bagWord = "bag"
	gotWord = "got"
)

// message is a bag or, if its word is got, an acknowledgement: then the bag has no tokens, and is from the office that received a bag to the one that shipped it.
type message struct {
	word string
	bag  api.Bag
}

func (x message) isValid() bool {
	switch x.word {
	case bagWord:
		return isBag(x.bag)
	case gotWord:
		return isWay(x.bag) && len(x.bag.Tokens) == 0
	}
	return false
}

func (x message) text() string {
	var b strings.Builder
	b.WriteString(x.word + " " + lineOf(x.bag.From, x.bag.To, x.bag.Seq))
	for _, t := range x.bag.Tokens {
		b.WriteString(tokenText(t))
	}
	return b.String()
}

// lineOf returns a line of numbers.
func lineOf(numbers ...int) string {
	var words []string
	for _, n := range numbers {
		words = append(words, strconv.Itoa(n))
	}
	return strings.Join(words, " ") + "\n"
}

func tokenText(t api.Token) string { return lineOf(t.Id, len(t.Body)) + t.Body + "\n" }

// cutter returns a closure that cuts a word off a text: all before the first end that lies behind its first least bytes. If there is none, it panics with ErrForm.
func cutter(text *string) func(least int, end string) string {
	return func(least int, end string) string {
		s := *text
		if !within(least, 0, len(s)) || !strings.Contains(s[least:], end) {
			panic(api.ErrForm)
		}
		at := least + strings.Index(s[least:], end)
		*text = s[at+len(end):]
		return s[:at]
	}
}

// number returns the number that a word says, perhaps not in its shortest form; it panics with ErrForm if there is none.
func number(word string) int {
	n, err := strconv.Atoi(word)
	if err != nil {
		panic(api.ErrForm)
	}
	return n
}

func cutToken(cut func(least int, end string) string) api.Token {
	id := number(cut(0, " "))
	size := number(cut(0, "\n"))
	return api.Token{Id: id, Body: cut(size, "\n")}
}

// readMessage returns the message with a text; it panics with ErrForm if there is none.
//
// It reads more texts than there are messages: what was read has to have this text.
func readMessage(m string) message {
	text := m
	cut := cutter(&text)
	x := message{word: cut(0, " ")}
	x.bag.From = number(cut(0, " "))
	x.bag.To = number(cut(0, " "))
	x.bag.Seq = number(cut(0, "\n"))
	for text != "" {
		x.bag.Tokens = append(x.bag.Tokens, cutToken(cut))
	}
	if !x.isValid() || x.text() != m {
		panic(api.ErrForm)
	}
	return x
}

// PutBag returns the text of a bag.
func PutBag(b api.Bag) (string, api.Errno) {
	if !isBag(b) {
		return "", api.ErrArg
	}
	return message{bagWord, b}.text(), api.OK
}

// GetBag returns the bag with a text.
func GetBag(m string) (b api.Bag, e api.Errno) {
	defer func() {
		if recover() != nil {
			b, e = api.Bag{}, api.ErrForm
		}
	}()
	x := readMessage(m)
	if x.word != bagWord {
		return api.Bag{}, api.ErrForm
	}
	return x.bag, api.OK
}
