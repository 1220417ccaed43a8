package court_test

import (
	"fmt"
	"math/rand"
	"slices"
	"strings"
	"testing"

	"restante/api"
	"restante/court"
)

// bundle returns the bundle of a claim that is made.
func bundle(t *testing.T, j [][]api.Record, c api.Claim) api.Bundle {
	t.Helper()
	b, e := court.Bundle(j, c)
	same(t, "Bundle", e, api.OK)
	return b
}

// P8.4: bundles are accepted with the roots of the journals, and say what they show.
func TestRightBundles(t *testing.T) {
	t.Parallel()
	answers := map[uint8]int{}
	eachClaim(60, func(r *rand.Rand, j [][]api.Record, c api.Claim) {
		b := bundle(t, j, c)
		var roots []api.Root
		for q, digests := range digestsOf(j) {
			roots = append(roots, api.Root{Office: q, N: len(j[q]), Hash: court.Root(digests)})
		}
		ruling, e := court.CheckBundle(b, roots)
		same(t, "CheckBundle", e, api.OK)
		want, _ := plainCheckBundle(b, roots)
		equal(t, "CheckBundle", ruling, want)
		if b.Ruling.Answer != api.AnswerBreach {
			same(t, "the answer", ruling.Answer, b.Ruling.Answer)
		}
		answers[b.Ruling.Answer]++
		answers[10*b.Ruling.Answer+ruling.Answer]++
	})
	for _, x := range []uint8{1, 2, 3} {
		if answers[x] < 15 {
			t.Errorf("only %d of %d: %v", answers[x], x, answers)
		}
	}
}

// H17: bundles that are wrong, with proofs that do not hold, and with some that do.
func TestWrongBundles(t *testing.T) {
	t.Parallel()
	met := map[api.Errno]int{}
	eachClaim(12, func(r *rand.Rand, j [][]api.Record, c api.Claim) {
		right := bundle(t, j, c)
		for i := range 24 {
			b := right
			switch i % 4 {
			case 0:
				b = spoilt(r, right)
			case 1, 2:
				b = forged(r, j, right)
			case 3:
				b = forged(r, j, forged(r, j, right))
			}
			roots := pick(r, b.Roots, b.Roots, b.Roots, right.Roots)
			if r.Intn(20) == 0 {
				roots = spoilt(r, roots)
			}
			got, e := court.CheckBundle(b, roots)
			want, w := plainCheckBundle(b, roots)
			same(t, "CheckBundle", e, w)
			if e != api.OK {
				fails(t, "CheckBundle", e, w, got)
			}
			equal(t, "CheckBundle", got, want)
			met[e]++
		}
	})
	for _, e := range []api.Errno{api.OK, api.ErrArg, api.ErrForm, api.ErrProof, api.ErrHidden, api.ErrBreach} {
		if met[e] < 25 {
			t.Errorf("only %d of the error %d", met[e], e)
		}
	}
}

// small is a journal in which a thing is looked at, kept, looked at again and delivered, with claims of a party (1) and of another person (2).
func small() [][]api.Record {
	fact := api.Fact{Room: 1, Layer: 1}
	return numbered([][]api.Record{{
		{Kind: api.RecRules, Text: "weights 0 20 60\nrule all rank 1: open any if always\n"},
		{Kind: api.RecArrive, Room: 1, Thing: 1, Text: "12/"},
		{Kind: api.RecLook, Room: 1, Thing: 1, Fact: fact, Look: api.Look{Layer: 1}, Piece: api.Piece{Kind: 1, Cells: cellsOf("a")}},
		{Kind: api.RecKeep, Room: 1, Thing: 1},
		{Kind: api.RecRules, Text: "weights 0 20 60\nrule one rank 1: leave 1 if room 2\nrule all rank 1: open any if room 1\n"},
		{Kind: api.RecLook, Room: 1, Thing: 1, Fact: fact, Look: api.Look{Layer: 1, Piece: 1}, Piece: api.Piece{Kind: 2, Cells: cellsOf("b")}},
		{Day: 1, Kind: api.RecDeliver, Room: 1, Thing: 1, Person: 1, Place: 1},
		{Day: 2, Kind: api.RecClaim, Thing: 1, Person: 1, N: 1, Verdict: api.AskOpened},
		{Day: 2, Kind: api.RecClaim, Thing: 1, Person: 2, N: 2, Verdict: api.AskOpened},
		{Day: 2, Kind: api.RecClaim, Thing: 1, Person: 1, N: 3, Verdict: api.AskKept},
		{Day: 2, Kind: api.RecClaim, Thing: 1, Person: 1, N: 4, Verdict: api.AskSent},
	}})
}

// honest returns the bundle of a claim, with the ruling that it shows by itself.
func honest(t *testing.T, j [][]api.Record, c api.Claim) api.Bundle {
	t.Helper()
	b := bundle(t, j, c)
	b.Ruling.Answer = api.AnswerBreach
	ruling, e := court.CheckBundle(b, b.Roots)
	same(t, "CheckBundle", e, api.OK)
	b.Ruling = ruling
	return b
}

// H17: what bundles show by themselves.
func TestWhatBundlesShow(t *testing.T) {
	j := small()
	claims := claimsIn(j)
	reason := func(index, rule int) api.Reason { return api.Reason{Ref: api.Ref{Index: index}, Rule: rule} }
	for i, want := range []api.Ruling{
		{Answer: api.AnswerRight, Reasons: []api.Reason{reason(2, 0), reason(5, 1)}},
		{Answer: api.AnswerNothing},
		{Answer: api.AnswerRight, Reasons: []api.Reason{reason(3, -1)}},
		{Answer: api.AnswerRight, Reasons: []api.Reason{reason(6, -1)}},
	} {
		equal(t, fmt.Sprint("the bundle of the claim ", i), honest(t, j, claims[i]).Ruling, want)
	}
	j[0][5].Fact.Room = 2
	equal(t, "a rule that leaves the layer closed", honest(t, j, claims[0]).Ruling, api.Ruling{Answer: api.AnswerBreach, Reasons: []api.Reason{reason(2, 0)}, Breach: api.Ref{Index: 5}, What: api.BreachSealed})
	equal(t, "the same, asked otherwise", honest(t, j, claims[2]).Ruling, api.Ruling{Answer: api.AnswerBreach, Reasons: []api.Reason{reason(3, -1)}, Breach: api.Ref{Index: 5}, What: api.BreachSealed})
	equal(t, "the same, asked what comes later", honest(t, j, claims[3]).Ruling, api.Ruling{Answer: api.AnswerBreach, Breach: api.Ref{Index: 5}, What: api.BreachSealed})
	for _, source := range []string{"weights", "weights 1 2 3", "weights 0 0 0\nrule a rank 1: open any if always\nrule b rank 1: leave 2 if room 3\n"} {
		j = small()
		j[0][4].Text = source
		equal(t, "rules that open nothing", honest(t, j, claims[0]).Ruling, api.Ruling{Answer: api.AnswerBreach, Reasons: []api.Reason{reason(2, 0)}, Breach: api.Ref{Index: 5}, What: api.BreachSealed})
	}
	j = small()
	j[0][0] = api.Record{Kind: api.RecBook}
	equal(t, "a look before the rules", honest(t, j, claims[0]).Ruling, api.Ruling{Answer: api.AnswerBreach, Breach: api.Ref{Index: 2}, What: api.BreachSealed})
	j = small()
	j[0][5].Fact.To, j[0][5].Fact.From = 2, 1
	b := honest(t, j, claims[0])
	same(t, "Left", b.Ruling.Reasons[1].Left, 21)
	other := small()[0]
	for i := range other {
		other[i].Office = 1
	}
	other[0] = api.Record{Kind: api.RecBook, Office: 1, Seq: 0}
	for i, what := range map[int]string{2: "rules of another journal"} {
		two := [][]api.Record{small()[0], other}
		equal(t, what, honest(t, two, claims[0]).Ruling, api.Ruling{Answer: api.AnswerBreach, Reasons: []api.Reason{reason(2, 0), reason(5, 1)}, Breach: api.Ref{Journal: 1, Index: i}, What: api.BreachSealed})
	}
}

// H17: which parts of the rulings are compared.
func TestComparedRulings(t *testing.T) {
	j := small()
	for i, c := range claimsIn(j) {
		right := honest(t, j, c)
		check := func(what string, want api.Errno, change func(x *api.Ruling)) {
			t.Helper()
			b := copied(right)
			change(&b.Ruling)
			ruling, e := court.CheckBundle(b, b.Roots)
			same(t, fmt.Sprint(what, " of the claim ", i), e, want)
			if e == api.OK {
				equal(t, what, ruling, right.Ruling)
			} else {
				fails(t, what, e, want, ruling)
			}
		}
		check("the same", api.OK, func(x *api.Ruling) {})
		check("another Answer", api.ErrBreach, func(x *api.Ruling) { x.Answer = 4 - x.Answer })
		check("the Answer 0", api.ErrBreach, func(x *api.Ruling) { x.Answer = 0 })
		check("a breach", api.OK, func(x *api.Ruling) { *x = api.Ruling{Answer: api.AnswerBreach, What: 77} })
		check("another What", api.ErrBreach, func(x *api.Ruling) { x.What = api.BreachSealed })
		check("another Breach", api.ErrBreach, func(x *api.Ruling) { x.Breach.Index = 1 })
		check("another journal", api.ErrBreach, func(x *api.Ruling) { x.Breach.Journal = 1 })
		check("one more reason", api.ErrBreach, func(x *api.Ruling) { x.Reasons = append(x.Reasons, api.Reason{Ref: api.Ref{Index: 3}, Rule: -1}) })
		if len(right.Ruling.Reasons) == 0 {
			continue
		}
		left := api.OK
		if c.Ask == api.AskOpened {
			left = api.ErrBreach
		}
		check("one reason less", api.ErrBreach, func(x *api.Ruling) { x.Reasons = x.Reasons[1:] })
		check("another Ref", api.ErrBreach, func(x *api.Ruling) { x.Reasons[0].Ref.Index++ })
		check("another Rule", api.ErrBreach, func(x *api.Ruling) { x.Reasons[0].Rule++ })
		check("another Cost", api.OK, func(x *api.Ruling) { x.Reasons[0].Cost = -5 })
		check("another Left", left, func(x *api.Ruling) { x.Reasons[0].Left++ })
	}
}

// H17: the order of the errors: in each bundle all that comes later is wrong too.
func TestOrderOfErrorsOfBundles(t *testing.T) {
	j := small()
	c := claimsIn(j)[0]
	right := bundle(t, j, c)
	last := len(right.Items) - 1
	sign := func(b api.Bundle) api.Bundle { return signed(j, b) }
	hide := func(f *api.Field) { *f = api.Field{Hash: sum("f", f.Hash, string(f.Bytes))} }
	check := func(what string, b api.Bundle, roots []api.Root, want api.Errno) {
		t.Helper()
		b.Ruling = api.Ruling{}
		ruling, e := court.CheckBundle(b, roots)
		fails(t, what, e, want, ruling)
	}
	check("another ruling", right, right.Roots, api.ErrBreach)

	b := copied(right)
	b.Items[0], b.Items[last] = b.Items[last], b.Items[0]
	check("items in another order", b, b.Roots, api.ErrArg)
	b = copied(right)
	b.Items = append(b.Items, b.Items[last])
	check("an item twice", b, b.Roots, api.ErrArg)
	b = copied(right)
	hide(&b.Items[0].Record.Fields[14])
	check("rules that hide a field", b, b.Roots, api.ErrArg)
	for i, text := range map[int]string{0: "2", 2: "1"} {
		b = copied(right)
		b.Items[0].Record.Fields[i].Bytes = []byte(text)
		check("another Seq or Office", sign(b), sign(b).Roots, api.ErrArg)
	}
	b = copied(right)
	b.Claim.Thing = 2
	check("another thing", b, b.Roots, api.ErrArg)

	wrong := copied(b)
	for _, x := range []struct {
		field int
		text  string
	}{{0, "1000001"}, {1, "100001"}, {2, "8"}, {4, "0"}, {4, "16"}, {5, "1000001"}, {5, ""}, {0, "00"}, {1, "-0"}, {6, "x"}, {14, strings.Repeat("a", 4001)}} {
		b = copied(wrong)
		b.Items[0].Record.Fields[x.field].Bytes = []byte(x.text)
		check(fmt.Sprint("the field ", x.field, " is ", x.text), sign(b), sign(b).Roots, api.ErrForm)
		for _, base := range []int{0, 1, 2, 4, 5} {
			hidden := copied(b)
			hide(&hidden.Items[0].Record.Fields[base])
			check("a base field is hidden", sign(hidden), sign(hidden).Roots, api.ErrHidden)
			check("the proof fails", hidden, hidden.Roots, api.ErrProof)
			other := sign(hidden)
			other.Items[0].Ref.Journal = 1
			check("there is no such journal", other, other.Roots, api.ErrProof)
			other.Items[0].Ref.Journal = -1
			check("there is no such journal", other, other.Roots, api.ErrProof)
			other.Items[0].Record.Fields[3] = api.Field{Bytes: []byte("1")}
			check("a hidden field has Bytes", other, other.Roots, api.ErrArg)
			other.Items[0].Record.Fields = other.Items[0].Record.Fields[:14]
			check("14 fields", other, other.Roots, api.ErrArg)
			roots := copied(other.Roots)
			roots[0].N++
			check("other roots", other, roots, api.ErrProof)
			check("fewer roots", other, nil, api.ErrProof)
			check("more roots", other, append(copied(other.Roots), api.Root{Office: 1}), api.ErrProof)
			other.Roots[0].Office = 1
			check("another office", other, other.Roots, api.ErrProof)
			other.Claim.Ask = 4
			check("another claim", other, nil, api.ErrArg)
		}
	}
	b = copied(right)
	b.Items[1].Record.Fields[4].Bytes = []byte("16")
	b.Items[0].Record.Fields[3].Bytes = []byte("1")
	check("the first item is not right", sign(b), sign(b).Roots, api.ErrForm)
	b.Items[0] = right.Items[0]
	check("the second item is not right", sign(b), sign(b).Roots, api.ErrForm)
}

// H17: claims at their limits.
func TestClaimsOfBundles(t *testing.T) {
	for _, x := range []struct {
		c  api.Claim
		ok bool
	}{
		{api.Claim{Id: 1, Person: 1, Thing: 1, Ask: 1}, true}, {api.Claim{Id: 1000000, Day: 100000, Person: 1000000, Thing: 1000000, Ask: 3}, true},
		{api.Claim{Id: 0, Person: 1, Thing: 1, Ask: 1}, false}, {api.Claim{Id: 1000001, Person: 1, Thing: 1, Ask: 1}, false},
		{api.Claim{Id: 1, Person: 0, Thing: 1, Ask: 1}, false}, {api.Claim{Id: 1, Person: 1000001, Thing: 1, Ask: 1}, false},
		{api.Claim{Id: 1, Person: 1, Thing: 0, Ask: 1}, false}, {api.Claim{Id: 1, Person: 1, Thing: 1000001, Ask: 1}, false},
		{api.Claim{Id: 1, Day: -1, Person: 1, Thing: 1, Ask: 1}, false}, {api.Claim{Id: 1, Day: 100001, Person: 1, Thing: 1, Ask: 1}, false},
		{api.Claim{Id: 1, Person: 1, Thing: 1, Ask: 0}, false}, {api.Claim{Id: 1, Person: 1, Thing: 1, Ask: 4}, false}, {api.Claim{}, false},
	} {
		ruling, e := court.CheckBundle(api.Bundle{Claim: x.c, Ruling: api.Ruling{Answer: api.AnswerNothing}}, nil)
		if x.ok {
			equal(t, "a bundle without items", []any{ruling, e}, []any{api.Ruling{Answer: api.AnswerNothing}, api.OK})
		} else {
			fails(t, fmt.Sprint(x.c), e, api.ErrArg, ruling)
		}
	}
}

// P8.6: whatever shown field is changed, the bundle is refused with ErrProof; so it is with other digests.
func TestChangedBundles(t *testing.T) {
	t.Parallel()
	eachClaim(4, func(r *rand.Rand, j [][]api.Record, c api.Claim) {
		b := bundle(t, j, c)
		for i := range b.Items {
			for k := range b.Items[i].Record.Fields {
				for range 2 {
					x := copied(b)
					f := &x.Items[i].Record.Fields[k]
					if f.Shown {
						f.Bytes = []byte(spoiltText(r, string(f.Bytes)))
						if string(f.Bytes) == string(b.Items[i].Record.Fields[k].Bytes) {
							f.Bytes = append(f.Bytes, ' ')
						}
					} else {
						f.Hash[r.Intn(32)]++
					}
					ruling, e := court.CheckBundle(x, b.Roots)
					fails(t, "a changed field", e, api.ErrProof, ruling)
				}
			}
		}
	})
}

// H18: what a bundle tells.
func TestTold(t *testing.T) {
	t.Parallel()
	eachClaim(20, func(r *rand.Rand, j [][]api.Record, c api.Claim) {
		for _, b := range []api.Bundle{bundle(t, j, c), spoilt(r, bundle(t, j, c)), forged(r, j, bundle(t, j, c))} {
			var want []api.Field
			for _, item := range b.Items {
				for _, f := range item.Record.Fields {
					if f.Shown {
						want = append(want, api.Field{Shown: true, Bytes: f.Bytes})
					}
				}
			}
			equal(t, "Told", court.Told(b), want)
		}
	})
	equal(t, "Told of nothing", court.Told(api.Bundle{}), []api.Field{})
	hidden := api.Bundle{Items: []api.Item{{Record: api.Redacted{Fields: []api.Field{{Bytes: []byte("secret"), Hash: sum("x")}}}}}}
	equal(t, "Told of a hidden field", court.Told(hidden), []api.Field{})
}

// unnamed returns other journals that differ only in what a claimant may not know.
func unnamed(r *rand.Rand, j [][]api.Record, c api.Claim) [][]api.Record {
	k := copied(j)
	for q := range k {
		for i := range k[q] {
			k[q][i] = unnamedRecord(r, j, c, api.Ref{Journal: q, Index: i})
			k[q][i].Salt = r.Intn(1000000)
		}
	}
	return k
}

func unnamedRecord(r *rand.Rand, j [][]api.Record, c api.Claim, ref api.Ref) api.Record {
	old := get(j, ref)
	may := plainMay(j, c, ref)
	isClaim := old.Kind == api.RecClaim && old.Thing == c.Thing && old.N == c.Id
	if len(may) == 15 || isClaim {
		return old
	}
	for range 20 {
		x := spoilt(r, old)
		if len(may) == 0 {
			x = randomRecord(r, uint8(1+r.Intn(15)))
		} else if old.Kind != api.RecClaim && old.Kind != api.RecAnswer {
			x = randomRecord(r, old.Kind)
			x.Thing = old.Thing
		}
		x.Seq, x.Office, x.Day = old.Seq, old.Office, old.Day
		keeps := !slices.ContainsFunc(may, func(i int) bool { return plainFields(x)[i] != plainFields(old)[i] })
		isOpen := x.Kind == api.RecRules || x.Kind == api.RecBook || len(may) == 0 && x.Thing == c.Thing
		if keeps && !isOpen && wellFormed(x) {
			return x
		}
	}
	return old
}

// P8.5: bundles tell nothing that the claimant may not know.
func TestSecrecy(t *testing.T) {
	t.Parallel()
	changed := map[uint8]int{}
	eachClaim(30, func(r *rand.Rand, j [][]api.Record, c api.Claim) {
		for range 4 {
			k := unnamed(r, j, c)
			if errorOf(k) != api.OK || plainParty(j, c.Person, c.Thing) != plainParty(k, c.Person, c.Thing) {
				continue
			}
			for _, ref := range plainJoin(j) {
				equal(t, "May", plainMay(k, c, ref), plainMay(j, c, ref))
			}
			a, b := bundle(t, j, c), bundle(t, k, c)
			equal(t, "Told", court.Told(b), court.Told(a))
			equal(t, "the rulings", b.Ruling, a.Ruling)
			x, e := court.CheckBundle(a, a.Roots)
			y, f := court.CheckBundle(b, b.Roots)
			equal(t, "CheckBundle", []any{x, e}, []any{y, f})
			if fmt.Sprint(j) != fmt.Sprint(k) {
				changed[a.Ruling.Answer]++
			}
		}
	})
	if changed[1] < 20 || changed[2] < 20 || changed[3] < 100 {
		t.Error("too few journals were changed:", changed)
	}
}

// P8.5: nothing of a hidden field, nor of its salt, is in what is told.
func TestHiddenFields(t *testing.T) {
	eachClaim(10, func(r *rand.Rand, j [][]api.Record, c api.Claim) {
		for _, item := range bundle(t, j, c).Items {
			x := get(j, item.Ref)
			for i, f := range item.Record.Fields {
				if slices.Contains(plainMay(j, c, item.Ref), i) {
					continue
				}
				equal(t, "a hidden field", f, api.Field{Hash: sum("f", plainSalt(x, i), plainFields(x)[i])})
				if f.Hash == plainSalt(x, i) {
					t.Fatal("a hidden field has its salt")
				}
			}
		}
	})
}

// H19, P8.7: the texts of bundles, and which strings are some.
func TestTextsOfBundles(t *testing.T) {
	t.Parallel()
	parsed := map[bool]int{}
	eachClaim(8, func(r *rand.Rand, j [][]api.Record, c api.Claim) {
		right := bundle(t, j, c)
		if len(right.Items) > 4 {
			right.Items = right.Items[len(right.Items)-4:]
		}
		for range 4 {
			b := spoilt(r, pick(r, right, forged(r, j, bundle(t, j, c))))
			for i := range b.Items {
				for k := range b.Items[i].Record.Fields {
					if f := &b.Items[i].Record.Fields[k]; !f.Shown {
						f.Bytes = nil
					}
				}
			}
			text := court.Print(b)
			same(t, "Print", text, plainPrint(b))
			back, e := court.Parse(text)
			same(t, "Parse of "+text, e, api.OK)
			equal(t, "Parse", back, b)
			for range 6 {
				other := spoiltText(r, court.Print(right))
				got, e := court.Parse(other)
				want, ok := plainParse(other)
				parsed[ok]++
				if !ok {
					fails(t, "Parse of "+other, e, api.ErrForm, got)
					continue
				}
				same(t, "Parse of "+other, e, api.OK)
				equal(t, "Parse", got, want)
			}
		}
	})
	if parsed[true] < 15 || parsed[false] < 200 {
		t.Error("too few texts of one sort:", parsed)
	}
	hidden := api.Bundle{Items: []api.Item{{Record: api.Redacted{Fields: []api.Field{{Bytes: []byte("secret")}}}}}}
	back, e := court.Parse(court.Print(hidden))
	same(t, "Parse", e, api.OK)
	hidden.Items[0].Record.Fields[0].Bytes = nil
	equal(t, "a hidden field with Bytes", back, hidden)
}

// H19: texts that are none.
func TestTextsOfNoBundles(t *testing.T) {
	zero := court.Print(api.Bundle{})
	same(t, "Print", zero, "claim 0 0 0 0 0\nruling 0 0 0 0\n")
	hash := strings.Repeat("0a", 32)
	head, end := "claim 1 2 3 4 1\n", "ruling 1 0 0 0\n"
	for text, ok := range map[string]bool{
		head + end: true, head: false, end: false, end + head: false, head + head + end: false, head + end + end: false, head + end + "\n": false, head + end[:len(end)-1]: false, "": false, "\n": false,
		"claim 1 2 3 4\n" + end: false, "claim 1 2 3 4 1 5\n" + end: false, "claim 1 2 3 4 256\n" + end: false, "claim 1 2 3 4 255\n" + end: true, "claim -1 2 3 4 1\n" + end: true, "claim -0 2 3 4 1\n" + end: false,
		"claim +1 2 3 4 1\n" + end: false, "claim 01 2 3 4 1\n" + end: false, "claim  1 2 3 4 1\n" + end: false, "claim 1 2 3 4 1 \n" + end: false, "claim 9223372036854775808 2 3 4 1\n" + end: false, "claim 9223372036854775807 2 3 4 1\n" + end: true,
		head + "root 0 1 " + hash + "\n" + end: true, head + "root 0 1 " + strings.ToUpper(hash) + "\n" + end: false, head + "root 0 1 " + hash[1:] + "\n" + end: false, head + "root 0 1 " + hash + "0\n" + end: false, head + "root 0 " + hash + "\n" + end: false, head + "root\n" + end: false, head + "root " + hash + "\n" + end: false,
		head + "item 0 1\n" + end: true, head + "item 0\n" + end: false, head + "item 0 1\nroot 0 1 " + hash + "\n" + end: false, head + "item 0 1\nhidden " + hash + "\n" + end: true, head + "item 0 1\nhidden " + hash + " 0\n" + end: false,
		head + "item 0 1\npath " + hash + "\n" + end: true, head + "item 0 1\npath " + hash + "\nhidden " + hash + "\n" + end: false, head + "path " + hash + "\n" + end: false, head + "hidden " + hash + "\n" + end: false,
		head + "item 0 1\nshown " + hash + " 0\n\n" + end: true, head + "item 0 1\nshown " + hash + " 1\n\n\n" + end: true, head + "item 0 1\nshown " + hash + " 1\n\n" + end: false, head + "item 0 1\nshown " + hash + " 3\nabcd\n" + end: false, head + "item 0 1\nshown " + hash + " 5\nabcd\n" + end: false,
		head + "item 0 1\nshown " + hash + " -1\n\n" + end: false, head + "item 0 1\nshown " + hash + " 01\na\n" + end: false, head + "item 0 1\nshown " + hash + "\n\n" + end: false, head + "item 0 1\nshown " + hash + " 9223372036854775807\n\n" + end: false, head + "item 0 1\nshown " + hash + " 15\n" + end: false,
		head + end + "reason 0 0 -1 0 0\n": true, head + end + "reason 0 0 -1 0\n": false, head + end + "reason 0 0 -1 0 0": false, head + "reason 0 0 -1 0 0\n" + end: false, head + "ruling 1 0 0\n": false, head + "ruling 256 0 0 0\n": false, head + "ruling 1 0 0 256\n": false,
	} {
		b, e := court.Parse(text)
		_, want := plainParse(text)
		same(t, "the oracle for "+text, want, ok)
		if !ok {
			fails(t, "Parse of "+text, e, api.ErrForm, b)
			continue
		}
		same(t, "Parse of "+text, e, api.OK)
		same(t, "Print", court.Print(b), text)
	}
}
