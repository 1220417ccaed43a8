package court_test

import (
	"math/rand"
	"slices"
	"testing"

	"restante/api"
	"restante/court"
)

// someFields returns some indices of fields, in ascending order.
func someFields(r *rand.Rand) []int {
	var keep []int
	part := 1 + r.Intn(4)
	for i := range 15 {
		if r.Intn(part) == 0 {
			keep = append(keep, i)
		}
	}
	return keep
}

// plainRedact follows the first sentence of H7.
func plainRedact(x api.Record, keep []int) api.Redacted {
	var l []api.Field
	for i, f := range plainFields(x) {
		if slices.Contains(keep, i) {
			l = append(l, api.Field{Shown: true, Bytes: []byte(f), Hash: plainSalt(x, i)})
		} else {
			l = append(l, api.Field{Hash: sum("f", plainSalt(x, i), f)})
		}
	}
	return api.Redacted{Fields: l}
}

// H6, H7, P8.2: digests, and that what is kept does not matter.
func TestDigests(t *testing.T) {
	eachRecord(func(r *rand.Rand, x api.Record) {
		want := plainDigest(x)
		same(t, "Digest", court.Digest(x), want)
		all := make([]int, 15)
		for i := range all {
			all[i] = i
		}
		for _, keep := range [][]int{nil, {}, {r.Intn(15)}, someFields(r), someFields(r), all} {
			y, e := court.Redact(x, keep)
			same(t, "Redact", e, api.OK)
			equal(t, "Redact", y, plainRedact(x, keep))
			digest, e := court.DigestOf(y)
			same(t, "DigestOf", e, api.OK)
			same(t, "DigestOf", digest, want)
		}
		other := x
		other.Salt = (x.Salt + 1) % 9007199254740992
		if court.Digest(other) == want {
			t.Fatal("records with different salts have the same digest")
		}
	})
	same(t, "Digest of no record", court.Digest(api.Record{}), api.Hash{})
}

// H7: which lists of fields are refused, and that a record that is not well-formed is.
func TestRedactErrors(t *testing.T) {
	book := api.Record{Kind: api.RecBook}
	for _, keep := range [][]int{{-1}, {15}, {0, 0}, {1, 0}, {0, 1, 15}, {0, 2, 1}, {14, 14}, extremes()} {
		x, e := court.Redact(book, keep)
		fails(t, "Redact", e, api.ErrArg, x)
	}
	x, e := court.Redact(api.Record{}, []int{0})
	fails(t, "Redact of no record", e, api.ErrArg, x)
	r := rand.New(rand.NewSource(3))
	for range 3000 {
		keep := spoilt(r, someFields(r))
		right := slices.IsSorted(keep) && len(slices.Compact(slices.Clone(keep))) == len(keep) && !slices.ContainsFunc(keep, func(i int) bool { return i < 0 || i > 14 })
		x, e := court.Redact(book, keep)
		if right {
			equal(t, "Redact", x, plainRedact(book, keep))
		} else {
			fails(t, "Redact", e, api.ErrArg, x)
		}
	}
}

// H7: redacted records whose fields have any values.
func TestDigestOf(t *testing.T) {
	t.Parallel()
	refused := 0
	eachRecord(func(r *rand.Rand, x api.Record) {
		right, _ := court.Redact(x, someFields(r))
		for range 10 {
			y := spoilt(r, right)
			digest, e := court.DigestOf(y)
			bad, parts := len(y.Fields) != 15, []any{"r"}
			for _, f := range y.Fields {
				bad = bad || !f.Shown && len(f.Bytes) > 0
				if f.Shown {
					f.Hash = sum("f", f.Hash, string(f.Bytes))
				}
				parts = append(parts, f.Hash)
			}
			if bad {
				refused++
				fails(t, "DigestOf", e, api.ErrArg, digest)
				continue
			}
			same(t, "DigestOf", e, api.OK)
			same(t, "DigestOf", digest, sum(parts...))
		}
	})
	if refused < 100 {
		t.Error("only", refused, "were refused")
	}
	for _, n := range []int{0, 14, 16} {
		digest, e := court.DigestOf(api.Redacted{Fields: make([]api.Field, n)})
		fails(t, "DigestOf", e, api.ErrArg, digest)
	}
	fields := make([]api.Field, 15)
	fields[14].Bytes = []byte{}
	_, e := court.DigestOf(api.Redacted{Fields: fields})
	same(t, "a hidden field with empty Bytes", e, api.OK)
	fields[14].Bytes = []byte{0}
	_, e = court.DigestOf(api.Redacted{Fields: fields})
	same(t, "a hidden field with Bytes", e, api.ErrArg)
}

// P8.6: the digest changes with each byte of a shown field.
func TestChangedFields(t *testing.T) {
	eachRecord(func(r *rand.Rand, x api.Record) {
		y, _ := court.Redact(x, someFields(r))
		for i := range y.Fields {
			z := copied(y)
			if f := &z.Fields[i]; f.Shown {
				f.Bytes = append(f.Bytes, '0')
			} else {
				f.Hash[r.Intn(32)]++
			}
			digest, _ := court.DigestOf(z)
			if digest == court.Digest(x) {
				t.Fatal("a changed field has the same digest")
			}
		}
	})
}
