package custody_test

import (
	"fmt"
	"slices"
	"testing"

	"restante/api"
	"restante/custody"
)

// costOf is the cost of a record of n bytes.
func costOf(n int) int { return 1 + n/32 }

// trial uses a disk with journals, and checks all that the chapter promises of them.
type trial struct {
	t       *testing.T
	d       *custody.Disk
	j       *custody.Journal
	sectors int
	records []string // of the journal
	durable int      // how many of them are
	failed  []string // the record of the first Append that returned ErrDown, if there is one
	crashed bool     // since the journal was opened
}

func newTrial(t *testing.T, sectors int) *trial {
	t.Helper()
	x := &trial{t: t, d: newDisk(t, sectors), sectors: sectors}
	same(t, "open", x.open(), true)
	return x
}

// open opens the journal anew, and reports whether the disk did not go down meanwhile.
func (x *trial) open() bool {
	x.t.Helper()
	wasDown := x.d.Down()
	j, records, e := custody.Open(x.d)
	if wasDown || e != api.OK {
		same(x.t, "Open", fmt.Sprint(j == nil, len(records), e), "true 0 70")
		same(x.t, "Down", x.d.Down(), true)
		return false
	}
	x.j = j
	x.checkRecords(records)
	x.records, x.durable, x.failed, x.crashed = records, len(records), nil, false
	same(x.t, "Len", j.Len(), len(records))
	return true
}

// checkRecords checks what Open returned.
func (x *trial) checkRecords(got []string) {
	x.t.Helper()
	if !x.crashed {
		equal(x.t, "the records", got, x.records)
		return
	}
	if len(got) < x.durable {
		x.t.Fatalf("of %d durable records there are %d", x.durable, len(got))
	}
	if len(got) > len(x.records) {
		equal(x.t, "the records, and one that failed", got, slices.Concat(x.records, x.failed))
		return
	}
	equal(x.t, "the first records", got, x.records[:len(got)])
}

func (x *trial) cost() int {
	sum := 0
	for _, s := range x.records {
		sum += costOf(len(s))
	}
	return sum
}

func (x *trial) append(s string) api.Errno {
	x.t.Helper()
	wasDown := x.d.Down()
	e := x.j.Append(s)
	switch {
	case len(s) > 60000:
		same(x.t, "Append of a long record", e, api.ErrLimit)
	case wasDown:
		same(x.t, "Append", e, api.ErrDown)
	case e == api.OK:
		x.records = append(x.records, s)
	case e == api.ErrFull:
		if cost := x.cost() + costOf(len(s)); cost <= x.sectors/2 {
			x.t.Fatalf("full: %d of %d sectors", cost, x.sectors)
		}
		same(x.t, "Down", x.d.Down(), false)
	default:
		same(x.t, "Append", e, api.ErrDown)
		same(x.t, "Down", x.d.Down(), true)
	}
	if e == api.ErrDown && len(x.failed) == 0 {
		x.failed = []string{s}
	}
	same(x.t, "Len", x.j.Len(), len(x.records))
	return e
}

func (x *trial) sync() api.Errno {
	x.t.Helper()
	wasDown := x.d.Down()
	e := x.j.Sync()
	if e == api.OK && !wasDown {
		x.durable = len(x.records)
		return e
	}
	same(x.t, "Sync", e, api.ErrDown)
	same(x.t, "Down", x.d.Down(), true)
	return e
}

// crash crashes the disk, and opens the journal anew.
func (x *trial) crash(keep []int) {
	x.t.Helper()
	x.d.Crash(keep)
	x.crashed = true
	same(x.t, "Down", x.d.Down(), false)
	same(x.t, "open", x.open(), true)
}
