package court_test

import (
	"testing"

	"restante/api"
	"restante/court"
)

// The examples of the chapter on fields and books; those on digests are in other tests.
func TestExamples(t *testing.T) {
	h := court.Sum([]byte("abc"))
	equal(t, "Sum(abc)", h[:4], []byte{0xba, 0x78, 0x16, 0xbf})
	h = court.Sum(nil)
	equal(t, "Sum()", h[:4], []byte{0xe3, 0xb0, 0xc4, 0x42})
	f := court.Fields(api.Record{Seq: 4, Day: 9, Office: 1, Kind: api.RecBook, Text: "spell 2 v/f"})
	for i, want := range map[int]string{0: "4", 4: "12", 9: "0 0 0 0 0 0", 11: "0 ", 14: "spell 2 v/f"} {
		same(t, "a field", string(f[i]), want)
	}
	b, e := court.Enter(api.Books{}, "spell 2 v/f")
	equal(t, "Enter", []any{b, e}, []any{api.Books{Spells: []api.Spell{{From: "v", To: "f", Cost: 2}}}, api.OK})
	b, e = court.Enter(api.Books{}, "place 3 move 1 2")
	fails(t, "Enter", e, api.ErrNone, b)
}
