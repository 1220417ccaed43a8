package court_test

import (
	"encoding/hex"
	"fmt"
	"math/rand"
	"regexp"
	"slices"
	"strconv"
	"strings"

	"restante/api"
	"restante/court"
	"restante/seals"
)

// plainRead follows Read of H5 by way of GetRecord, which another test compares with its oracle.
func plainRead(fields []api.Field) (api.Record, bool) {
	var f [][]byte
	for _, x := range fields {
		f = append(f, x.Bytes)
	}
	r, e := court.Read(f)
	return r, e == api.OK
}

var decimal = regexp.MustCompile(`\A(0|[1-9][0-9]{0,6})\z`)

// plainCheckBundle follows H17.
func plainCheckBundle(b api.Bundle, roots []api.Root) (api.Ruling, api.Errno) {
	c := b.Claim
	if !in(c.Id, 1, 1000000) || !in(c.Person, 1, 1000000) || !in(c.Thing, 1, 1000000) || !in(c.Day, 0, 100000) || !in(int(c.Ask), 1, 3) {
		return api.Ruling{}, api.ErrArg
	}
	if fmt.Sprint(b.Roots) != fmt.Sprint(roots) {
		return api.Ruling{}, api.ErrProof
	}
	for q, x := range roots {
		if x.Office != q {
			return api.Ruling{}, api.ErrProof
		}
	}
	var records []api.Record // of which only the base fields are known unless they are whole
	var whole []bool
	for i, item := range b.Items {
		r, all, e := plainItem(item, roots)
		if e != api.OK {
			return api.Ruling{}, e
		}
		if r.Office != item.Ref.Journal || r.Seq != item.Ref.Index {
			return api.Ruling{}, api.ErrArg
		}
		if i > 0 {
			before := b.Items[i-1].Ref
			if r.Day < records[i-1].Day || r.Day == records[i-1].Day && (item.Ref.Journal < before.Journal || item.Ref.Journal == before.Journal && item.Ref.Index <= before.Index) {
				return api.Ruling{}, api.ErrArg
			}
		}
		if !(r.Kind == api.RecRules && all) && r.Thing != c.Thing {
			return api.Ruling{}, api.ErrArg
		}
		records, whole = append(records, r), append(whole, all)
	}
	ruling := plainRuling(c, records, whole)
	if b.Ruling.Answer != api.AnswerBreach && !plainAgrees(b.Ruling, ruling, c.Ask) {
		return api.Ruling{}, api.ErrBreach
	}
	return ruling, api.OK
}

// plainItem follows the second point of H17, as far as it concerns an item alone.
func plainItem(item api.Item, roots []api.Root) (api.Record, bool, api.Errno) {
	none := api.Record{}
	digest, e := court.DigestOf(item.Record)
	if e != api.OK {
		return none, false, e
	}
	if !in(item.Ref.Journal, 0, len(roots)-1) {
		return none, false, api.ErrProof
	}
	root := roots[item.Ref.Journal]
	if !court.CheckProof(digest, item.Ref.Index, root.N, item.Path, root.Hash) {
		return none, false, api.ErrProof
	}
	base := []int{0, 1, 2, 4, 5}
	all := true
	for i, f := range item.Record.Fields {
		if !f.Shown && slices.Contains(base, i) {
			return none, false, api.ErrHidden
		}
		all = all && f.Shown
	}
	var n [15]int
	for k, limits := range [][2]int{{0, 1000000}, {0, 100000}, {0, 7}, {1, 15}, {0, 1000000}} {
		text := string(item.Record.Fields[base[k]].Bytes)
		n[base[k]], _ = strconv.Atoi(text)
		if !decimal.MatchString(text) || !in(n[base[k]], limits[0], limits[1]) {
			return none, false, api.ErrForm
		}
	}
	r := api.Record{Seq: n[0], Day: n[1], Office: n[2], Kind: uint8(n[4]), Thing: n[5]}
	if all {
		var ok bool
		if r, ok = plainRead(item.Record.Fields); !ok {
			return none, false, api.ErrForm
		}
	}
	return r, all, api.OK
}

// plainRuling follows the last paragraph of H17.
func plainRuling(c api.Claim, records []api.Record, whole []bool) api.Ruling {
	some, hides := false, false
	for i, r := range records {
		if r.Thing == c.Thing && r.Kind != api.RecClaim && r.Kind != api.RecAnswer {
			some, hides = true, hides || !whole[i]
		}
	}
	if !some || hides {
		return api.Ruling{Answer: api.AnswerNothing}
	}
	ruling := api.Ruling{Answer: api.AnswerRight}
	for _, r := range records {
		ref := api.Ref{Journal: r.Office, Index: r.Seq}
		var policy api.Policy
		for _, x := range records {
			if x.Kind == api.RecRules && x.Office == r.Office && x.Seq < r.Seq {
				policy, _ = plainPolicy([]api.Record{x})
			}
		}
		open, rule := seals.Apply(policy, r.Fact)
		if r.Kind == api.RecLook && !open {
			ruling.Answer, ruling.Breach, ruling.What = api.AnswerBreach, ref, api.BreachSealed
			break
		}
		if slices.Contains(kindsFor(c.Ask), r.Kind) {
			x := api.Reason{Ref: ref, Rule: -1}
			if r.Kind == api.RecLook {
				x.Rule, x.Left = rule, 10*int(r.Fact.To)+int(r.Fact.From)
			}
			ruling.Reasons = append(ruling.Reasons, x)
		}
	}
	return ruling
}

func plainAgrees(told, shown api.Ruling, ask uint8) bool {
	told = copied(told)
	for i := range told.Reasons {
		told.Reasons[i].Cost = 0
		if ask != api.AskOpened {
			told.Reasons[i].Left = 0
		}
	}
	return fmt.Sprint(told) == fmt.Sprint(shown)
}

// signed returns a bundle with other items of the same journals, whose roots and paths are made anew, so that only what the items say is wrong.
func signed(j [][]api.Record, b api.Bundle) api.Bundle {
	b = copied(b)
	var digests [][]api.Hash
	for _, l := range j {
		var list []api.Hash
		for _, r := range l {
			list = append(list, court.Digest(r))
		}
		digests = append(digests, list)
	}
	for _, item := range b.Items {
		if d, e := court.DigestOf(item.Record); e == api.OK && item.Ref.Journal < len(j) && item.Ref.Index < len(j[item.Ref.Journal]) {
			digests[item.Ref.Journal][item.Ref.Index] = d
		}
	}
	for q := range j {
		b.Roots[q].Hash = court.Root(digests[q])
	}
	for i := range b.Items {
		ref := b.Items[i].Ref
		b.Items[i].Path, _ = court.Prove(digests[ref.Journal], ref.Index)
	}
	return b
}

// forged returns a bundle whose items say something else, with proofs that hold.
func forged(r *rand.Rand, j [][]api.Record, b api.Bundle) api.Bundle {
	b = copied(b)
	n := len(b.Items)
	if n == 0 {
		return b
	}
	item := &b.Items[r.Intn(n)]
	fields := item.Record.Fields
	i := pick(r, 0, 1, 2, 4, 5, r.Intn(15))
	switch r.Intn(8) {
	case 0:
		if f := &fields[i]; f.Shown {
			*f = api.Field{Hash: sum("f", f.Hash, string(f.Bytes))}
		}
	case 1:
		fields[i].Shown = true
		fields[i].Bytes = []byte(pick(r, "0", "1", "2", "7", "8", "11", "15", "16", "01", "-1", "+1", " 1", "1000000", "1000001", "100000", "100001", "1 ", "", "99999999999999999999", "a"))
	case 2:
		at := r.Intn(n)
		b.Items = slices.Delete(b.Items, at, at+1)
	case 3:
		at := r.Intn(n)
		b.Items[0], b.Items[at] = b.Items[at], b.Items[0]
	case 4:
		b.Items = append(b.Items, copied(*item))
	case 5:
		b.Ruling = spoilt(r, b.Ruling)
	case 6:
		ref := pick(r, plainJoin(j)...)
		b.Items = append(b.Items, api.Item{Ref: ref, Record: plainRedact(get(j, ref), someFields(r))})
		slices.SortFunc(b.Items, func(x, y api.Item) int {
			if ahead(j, x.Ref, y.Ref) {
				return -1
			}
			return 1
		})
	case 7:
		if x := get(j, item.Ref); x.Kind == api.RecLook {
			x.Fact = api.Fact{Room: 1 + r.Intn(8), Layer: 1 + r.Intn(3), Days: r.Intn(9), To: uint8(r.Intn(3))}
			item.Record = plainRedact(x, plainMay(j, b.Claim, item.Ref))
		}
	}
	return signed(j, b)
}

// plainPrint follows H19.
func plainPrint(b api.Bundle) string {
	s := fmt.Sprintf("claim %d %d %d %d %d\n", b.Claim.Id, b.Claim.Day, b.Claim.Person, b.Claim.Thing, b.Claim.Ask)
	for _, x := range b.Roots {
		s += fmt.Sprintf("root %d %d %x\n", x.Office, x.N, x.Hash[:])
	}
	for _, x := range b.Items {
		s += fmt.Sprintf("item %d %d\n", x.Ref.Journal, x.Ref.Index)
		for _, f := range x.Record.Fields {
			if f.Shown {
				s += fmt.Sprintf("shown %x %d\n%s\n", f.Hash[:], len(f.Bytes), f.Bytes)
			} else {
				s += fmt.Sprintf("hidden %x\n", f.Hash[:])
			}
		}
		for _, h := range x.Path {
			s += fmt.Sprintf("path %x\n", h[:])
		}
	}
	s += fmt.Sprintf("ruling %d %d %d %d\n", b.Ruling.Answer, b.Ruling.Breach.Journal, b.Ruling.Breach.Index, b.Ruling.What)
	for _, x := range b.Ruling.Reasons {
		s += fmt.Sprintf("reason %d %d %d %d %d\n", x.Ref.Journal, x.Ref.Index, x.Rule, x.Cost, x.Left)
	}
	return s
}

// plainParse reads a text line by line by patterns, and returns the bundle only if it has this text.
func plainParse(s string) (api.Bundle, bool) {
	var b api.Bundle
	rest := s
	line := func(pattern string) []string {
		m := regexp.MustCompile(`(?s)\A` + strings.ReplaceAll(strings.ReplaceAll(pattern, "N", `(-?[0-9]{1,19})`), "H", `([0-9a-f]{64})`) + "\n").FindStringSubmatch(rest)
		if m != nil {
			rest = rest[len(m[0]):]
		}
		return m
	}
	number := func(s string) int {
		n, _ := strconv.Atoi(s)
		return n
	}
	hash := func(s string) api.Hash {
		h, _ := hex.DecodeString(s)
		return api.Hash(h)
	}
	m := line("claim N N N N N")
	if m == nil {
		return b, false
	}
	b.Claim = api.Claim{Id: number(m[1]), Day: number(m[2]), Person: number(m[3]), Thing: number(m[4]), Ask: uint8(number(m[5]))}
	for m = line("root N N H"); m != nil; m = line("root N N H") {
		b.Roots = append(b.Roots, api.Root{Office: number(m[1]), N: number(m[2]), Hash: hash(m[3])})
	}
	for m = line("item N N"); m != nil; m = line("item N N") {
		x := api.Item{Ref: api.Ref{Journal: number(m[1]), Index: number(m[2])}}
		for {
			if m = line("hidden H"); m != nil {
				x.Record.Fields = append(x.Record.Fields, api.Field{Hash: hash(m[1])})
			} else if m = line("shown H N"); m != nil && in(number(m[2]), 0, len(rest)-1) {
				n := number(m[2])
				x.Record.Fields = append(x.Record.Fields, api.Field{Shown: true, Hash: hash(m[1]), Bytes: []byte(rest[:n])})
				rest = rest[n+1:]
			} else {
				break
			}
		}
		for m = line("path H"); m != nil; m = line("path H") {
			x.Path = append(x.Path, hash(m[1]))
		}
		b.Items = append(b.Items, x)
	}
	if m = line("ruling N N N N"); m == nil {
		return b, false
	}
	b.Ruling = api.Ruling{Answer: uint8(number(m[1])), Breach: api.Ref{Journal: number(m[2]), Index: number(m[3])}, What: uint8(number(m[4]))}
	for m = line("reason N N N N N"); m != nil; m = line("reason N N N N N") {
		b.Ruling.Reasons = append(b.Ruling.Reasons, api.Reason{Ref: api.Ref{Journal: number(m[1]), Index: number(m[2])}, Rule: number(m[3]), Cost: number(m[4]), Left: number(m[5])})
	}
	return b, rest == "" && plainPrint(b) == s
}
