package court

import (
	"strings"

	"restante/api"
)

// The first words of the lines of a bundle.
const (
	claimWord  = "claim "
	rootWord   = "root "
	itemWord   = "item "
	shownWord  = "shown "
	hiddenWord = "hidden "
	pathWord   = "path "
	rulingWord = "ruling "
	reasonWord = "reason "
)

const hexDigits = "0123456789abcdef"

// Print returns the text of a bundle.
func Print(b api.Bundle) string {
	var s strings.Builder
	c := b.Claim
	s.WriteString(claimWord + words(c.Id, c.Day, c.Person, c.Thing, int(c.Ask)) + "\n")
	for _, x := range b.Roots {
		s.WriteString(rootWord + words(x.Office, x.N) + " " + hexOf(x.Hash) + "\n")
	}
	for _, x := range b.Items {
		printItem(&s, x)
	}
	r := b.Ruling
	s.WriteString(rulingWord + words(int(r.Answer), r.Breach.Journal, r.Breach.Index, int(r.What)) + "\n")
	for _, x := range r.Reasons {
		s.WriteString(reasonWord + words(x.Ref.Journal, x.Ref.Index, x.Rule, x.Cost, x.Left) + "\n")
	}
	return s.String()
}

func printItem(s *strings.Builder, x api.Item) {
	s.WriteString(itemWord + words(x.Ref.Journal, x.Ref.Index) + "\n")
	for _, f := range x.Record.Fields {
		if f.Shown {
			s.WriteString(shownWord + hexOf(f.Hash) + " " + words(len(f.Bytes)) + "\n")
			s.Write(f.Bytes)
			s.WriteString("\n")
		} else {
			s.WriteString(hiddenWord + hexOf(f.Hash) + "\n")
		}
	}
	for _, h := range x.Path {
		s.WriteString(pathWord + hexOf(h) + "\n")
	}
}

func hexOf(h api.Hash) string {
	var s strings.Builder
	for _, b := range h {
		s.WriteByte(hexDigits[b>>4])
		s.WriteByte(hexDigits[b&15])
	}
	return s.String()
}

// Parse returns the bundle with a text.
func Parse(s string) (b api.Bundle, e api.Errno) {
	defer func() {
		if recover() != nil {
			b, e = api.Bundle{}, api.ErrForm
		}
	}()
	x := bundleOf(s)
	// Each bundle whose hidden fields have no bytes has a text of its own, so whatever was misread is found by printing it again.
	if Print(x) != s {
		return api.Bundle{}, api.ErrForm
	}
	return x, api.OK
}

// bundleOf returns the bundle with a text, and perhaps one for another text; it panics with ErrForm if there is none.
func bundleOf(s string) api.Bundle {
	next := liner(&s)
	n := numbers(next(claimWord), 5)
	b := api.Bundle{Claim: api.Claim{Id: n[0], Day: n[1], Person: n[2], Thing: n[3], Ask: uint8(n[4])}}
	for strings.HasPrefix(s, rootWord) {
		line, hash := cutHash(next(rootWord))
		n := numbers(line, 2)
		b.Roots = append(b.Roots, api.Root{Office: n[0], N: n[1], Hash: hash})
	}
	for strings.HasPrefix(s, itemWord) {
		b.Items = append(b.Items, readItem(&s))
	}
	n = numbers(next(rulingWord), 4)
	b.Ruling = api.Ruling{Answer: uint8(n[0]), Breach: api.Ref{Journal: n[1], Index: n[2]}, What: uint8(n[3])}
	for s != "" {
		n := numbers(next(reasonWord), 5)
		b.Ruling.Reasons = append(b.Ruling.Reasons, api.Reason{Ref: api.Ref{Journal: n[0], Index: n[1]}, Rule: n[2], Cost: n[3], Left: n[4]})
	}
	return b
}

// readItem cuts an item off a text.
func readItem(s *string) api.Item {
	next := liner(s)
	n := numbers(next(itemWord), 2)
	x := api.Item{Ref: api.Ref{Journal: n[0], Index: n[1]}}
	for strings.HasPrefix(*s, shownWord) || strings.HasPrefix(*s, hiddenWord) {
		x.Record.Fields = append(x.Record.Fields, readField(s))
	}
	for strings.HasPrefix(*s, pathWord) {
		x.Path = append(x.Path, hashOf(next(pathWord)))
	}
	return x
}

// readField cuts a field off a text.
func readField(s *string) api.Field {
	next := liner(s)
	if strings.HasPrefix(*s, hiddenWord) {
		return api.Field{Hash: hashOf(next(hiddenWord))}
	}
	hash, length, _ := strings.Cut(next(shownWord), " ")
	size := number(length)
	if !within(size, 0, len(*s)) {
		panic(api.ErrForm)
	}
	f := api.Field{Shown: true, Hash: hashOf(hash), Bytes: []byte((*s)[:size])}
	*s = (*s)[size:]
	next("")
	return f
}

// cutHash cuts a digest off the end of a line.
func cutHash(line string) (string, api.Hash) {
	at := strings.LastIndex(line, " ")
	if at < 0 {
		panic(api.ErrForm)
	}
	return line[:at], hashOf(line[at+1:])
}

// hashOf returns the digest with 64 hexadecimal digits; it panics with ErrForm if there is none.
func hashOf(digits string) api.Hash {
	var h api.Hash
	if len(digits) != 2*len(h) {
		panic(api.ErrForm)
	}
	for i := range len(digits) {
		n := strings.IndexByte(hexDigits, digits[i])
		if n < 0 {
			panic(api.ErrForm)
		}
		h[i/2] = h[i/2]<<4 | byte(n)
	}
	return h
}
