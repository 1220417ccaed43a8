package court

import (
	"strings"

	"restante/api"
)

// The first words of the lines of a record.
const (
	recordWord = "record "
	factWord   = "fact "
	lookWord   = "look "
	pieceWord  = "piece "
	goodsWord  = "goods "
	textWord   = "text "
)

// headFields are the fields in the first line of a record, before its salt.
var headFields = [10]int{seqField, dayField, officeField, roomField, kindField, thingField, personField, placeField, nField, verdictField}

// PutRecord returns the text of a record.
func PutRecord(r api.Record) (string, api.Errno) {
	if !isRecord(r) {
		return "", api.ErrArg
	}
	text := recordText(r)
	if len(text) > api.MaxRecordText {
		return "", api.ErrLimit
	}
	return text, api.OK
}

func recordText(r api.Record) string {
	f := fieldsOf(r)
	var b strings.Builder
	b.WriteString(recordWord)
	for _, i := range headFields {
		b.WriteString(f[i] + " ")
	}
	b.WriteString(words(r.Salt) + "\n")
	b.WriteString(factWord + f[factField] + "\n")
	b.WriteString(lookWord + f[lookField] + "\n")
	b.WriteString(pieceWord + f[pieceField] + "\n")
	b.WriteString(goodsText(r.Goods, goodsWord))
	b.WriteString(textWord + words(len(r.Text)) + "\n" + r.Text)
	return b.String()
}

// GetRecord returns the record with a text.
func GetRecord(s string) (r api.Record, e api.Errno) {
	defer func() {
		if recover() != nil {
			r, e = api.Record{}, api.ErrForm
		}
	}()
	x := recordOf(s)
	again, fault := PutRecord(x)
	if fault != api.OK || again != s {
		return api.Record{}, api.ErrForm
	}
	return x, api.OK
}

// recordOf returns the record with a text, and perhaps one for another text; it panics with ErrForm if there is none.
func recordOf(s string) api.Record {
	next := liner(&s)
	head := numbers(next(recordWord), len(headFields)+1)
	var f [fieldCount]string
	for i, field := range headFields {
		f[field] = words(head[i])
	}
	f[factField] = next(factWord)
	f[lookField] = next(lookWord)
	f[pieceField] = next(pieceWord)
	for strings.HasPrefix(s, goodsWord) {
		f[goodsField] += next(goodsWord) + "\n"
	}
	next(textWord)
	f[textField] = s
	r := readRecord(f)
	r.Salt = head[len(headFields)]
	return r
}

// liner returns a closure that cuts off the first line of a text, which has to begin with a word, and returns what is behind the word. It panics with ErrForm if there is no such line.
func liner(text *string) func(word string) string {
	return func(word string) string {
		line, rest, ended := strings.Cut(*text, "\n")
		if !ended || !strings.HasPrefix(line, word) {
			panic(api.ErrForm)
		}
		*text = rest
		return line[len(word):]
	}
}
