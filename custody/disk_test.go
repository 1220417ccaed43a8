package custody_test

import (
	"fmt"
	"math"
	"math/rand"
	"strings"
	"testing"

	"restante/api"
	"restante/custody"
)

// storage is what a disk and its oracle have in common.
type storage interface {
	Read(sector int) ([]byte, api.Errno)
	Write(sector int, b []byte) api.Errno
	Flush() api.Errno
	Stop(calls int) api.Errno
	Crash(keep []int)
	Down() bool
}

// plainDisk is a disk as the chapter describes it, byte by byte.
type plainDisk struct {
	now, durable [][64]byte
	writes       []plainWrite
	down         bool
	left         int // how many calls are left; -1: the power does not fail
}

type plainWrite struct {
	sector int
	b      [64]byte
}

func newPlainDisk(sectors int) *plainDisk {
	return &plainDisk{now: make([][64]byte, sectors), durable: make([][64]byte, sectors), left: -1}
}

func (d *plainDisk) Down() bool { return d.down }

func (d *plainDisk) Read(sector int) ([]byte, api.Errno) {
	if d.down {
		return nil, api.ErrDown
	}
	if sector < 0 || sector >= len(d.now) {
		return nil, api.ErrArg
	}
	b := d.now[sector]
	return b[:], api.OK
}

// call counts a call that has no other error.
func (d *plainDisk) call() bool {
	d.down = d.left == 0
	if d.left > 0 {
		d.left--
	}
	return !d.down
}

func (d *plainDisk) Write(sector int, b []byte) api.Errno {
	if _, e := d.Read(sector); e != api.OK {
		return e
	}
	if len(b) > 64 {
		return api.ErrLimit
	}
	if !d.call() {
		return api.ErrDown
	}
	w := plainWrite{sector: sector}
	copy(w.b[:], b)
	d.writes = append(d.writes, w)
	d.now[sector] = w.b
	return api.OK
}

func (d *plainDisk) Flush() api.Errno {
	if d.down || !d.call() {
		return api.ErrDown
	}
	copy(d.durable, d.now)
	d.writes = nil
	return api.OK
}

func (d *plainDisk) Stop(calls int) api.Errno {
	switch {
	case d.down:
		return api.ErrDown
	case calls < 0:
		return api.ErrArg
	}
	d.left = calls
	return api.OK
}

func (d *plainDisk) Crash(keep []int) {
	for i, w := range d.writes {
		for at := range 64 {
			if i < len(keep) && at < keep[i] {
				d.durable[w.sector][at] = w.b[at]
			}
		}
	}
	copy(d.now, d.durable)
	d.writes, d.down, d.left = nil, false, -1
}

// contents returns what can be read of a disk.
func contents(d storage, sectors int) string {
	var text strings.Builder
	for i := range sectors {
		b, e := d.Read(i)
		fmt.Fprintln(&text, i, e, b)
	}
	return text.String()
}

// G1
func TestNewDisk(t *testing.T) {
	for _, n := range []int{math.MinInt, -16, -1, 0, 15, 65537, math.MaxInt} {
		if d, e := custody.NewDisk(n); d != nil || e != api.ErrArg {
			t.Errorf("NewDisk(%d): %d", n, e)
		}
	}
	for _, n := range []int{16, 17, 1000, 65536} {
		d := newDisk(t, n)
		same(t, "Down", d.Down(), false)
		for _, sector := range []int{0, n / 2, n - 1} {
			b, e := d.Read(sector)
			same(t, "Read", e, api.OK)
			same(t, "the bytes", string(b), strings.Repeat("\x00", 64))
		}
		for _, sector := range []int{math.MinInt, -1, n, n + 1, math.MaxInt} {
			b, e := d.Read(sector)
			same(t, "Read", fmt.Sprint(b, e), "[] 1")
			same(t, "Write", d.Write(sector, nil), api.ErrArg)
		}
	}
}

// The examples of the chapter.
func TestDiskExamples(t *testing.T) {
	d := newDisk(t, 16)
	reads := func(sector int, want string) {
		t.Helper()
		b, e := d.Read(sector)
		same(t, "Read", e, api.OK)
		same(t, "the bytes", string(b), want+strings.Repeat("\x00", 64-len(want)))
	}
	same(t, "Write", d.Write(0, []byte("abc")), api.OK)
	reads(0, "abc")
	d.Crash(nil)
	reads(0, "")
	d.Write(0, []byte("abc"))
	same(t, "Flush", d.Flush(), api.OK)
	d.Write(0, []byte("xyz"))
	d.Crash([]int{1})
	reads(0, "xbc")
	same(t, "Stop", d.Stop(1), api.OK)
	var errors []api.Errno
	for _, sector := range []int{0, 1, 1} {
		errors = append(errors, d.Write(sector, []byte("a")))
	}
	equal(t, "behind Stop(1)", errors, []api.Errno{api.OK, api.ErrDown, api.ErrDown})
}

// G2 to G6: a disk does what its oracle does.
func TestDisksLikeTheirOracle(t *testing.T) {
	met := map[api.Errno]int{}
	for seed := range int64(120) {
		r := rand.New(rand.NewSource(seed))
		sectors := 16 + r.Intn(3)
		d, o := newDisk(t, sectors), newPlainDisk(sectors)
		for range 150 {
			what, e := anyCall(t, r, d, o)
			met[e]++
			same(t, "Down behind "+what, d.Down(), o.Down())
			same(t, "the contents behind "+what, contents(d, sectors), contents(o, sectors))
		}
	}
	for _, e := range []api.Errno{api.OK, api.ErrDown, api.ErrArg, api.ErrLimit} {
		if met[e] < 100 {
			t.Errorf("only %d calls with the error %d", met[e], e)
		}
	}
}

// anyCall does the same call on a disk and on its oracle, compares them, and returns the error.
func anyCall(t *testing.T, r *rand.Rand, d, o storage) (string, api.Errno) {
	t.Helper()
	sector := pick(r, r.Intn(4), r.Intn(19), r.Intn(4), -1, math.MaxInt, math.MinInt)
	both := func(what string, e, want api.Errno) (string, api.Errno) {
		t.Helper()
		same(t, what, e, want)
		return what, e
	}
	switch r.Intn(12) {
	case 0:
		return both("Flush", d.Flush(), o.Flush())
	case 1:
		calls := pick(r, 0, 1, 2, 3, 7, -1, math.MinInt, math.MaxInt)
		return both(fmt.Sprintf("Stop(%d)", calls), d.Stop(calls), o.Stop(calls))
	case 2, 3:
		keep := append(randomKeep(r, 12), pick(r, 1, math.MinInt, math.MaxInt))
		d.Crash(keep)
		o.Crash(keep)
		return fmt.Sprintf("Crash(%v)", keep), api.OK
	case 4:
		b, e := d.Read(sector)
		want, f := o.Read(sector)
		same(t, "the bytes", string(b), string(want))
		return both(fmt.Sprintf("Read(%d)", sector), e, f)
	}
	b := []byte(noise(r.Int63(), pick(r, 0, 1, 5, 63, 64, 64, 65, 200, r.Intn(65))))
	return both(fmt.Sprintf("Write(%d, %q)", sector, b), d.Write(sector, b), o.Write(sector, b))
}

// G5: calls with another error do not count, and the next call that has none fails.
func TestStopCountsCalls(t *testing.T) {
	for calls := range 6 {
		d := newDisk(t, 16)
		same(t, "Stop", d.Stop(0), api.OK)
		same(t, "Stop", d.Stop(calls), api.OK)
		same(t, "Stop", d.Stop(-1), api.ErrArg)
		for i := range calls {
			same(t, "Write", d.Write(16, nil), api.ErrArg)
			same(t, "Write", d.Write(3, make([]byte, 65)), api.ErrLimit)
			if i%2 == 0 {
				same(t, "Write", d.Write(i, []byte{1}), api.OK)
			} else {
				same(t, "Flush", d.Flush(), api.OK)
			}
		}
		same(t, "Write", d.Write(3, make([]byte, 65)), api.ErrLimit)
		same(t, "Write", d.Write(-1, make([]byte, 65)), api.ErrArg)
		same(t, "Down", d.Down(), false)
		if calls%2 == 0 {
			same(t, "Write", d.Write(3, []byte{1}), api.ErrDown)
		} else {
			same(t, "Flush", d.Flush(), api.ErrDown)
		}
		isDown(t, d)
		d.Crash(nil)
		for range 10 {
			same(t, "Write", d.Write(3, []byte{1}), api.OK)
		}
	}
}

// isDown checks that every call but Crash and Down returns ErrDown, before other errors.
func isDown(t *testing.T, d *custody.Disk) {
	t.Helper()
	same(t, "Down", d.Down(), true)
	b, e := d.Read(-1)
	same(t, "Read", fmt.Sprint(b, e), "[] 70")
	b, e = d.Read(0)
	same(t, "Read", fmt.Sprint(b, e), "[] 70")
	same(t, "Write", d.Write(-1, make([]byte, 65)), api.ErrDown)
	same(t, "Write", d.Write(0, nil), api.ErrDown)
	same(t, "Flush", d.Flush(), api.ErrDown)
	same(t, "Stop", d.Stop(-1), api.ErrDown)
	same(t, "Stop", d.Stop(5), api.ErrDown)
	j, records, e := custody.Open(d)
	same(t, "Open", fmt.Sprint(j == nil, records, e), "true [] 70")
	o, e := custody.Start(d, 0)
	same(t, "Start", fmt.Sprint(o == nil, e), "true 70")
}

// R5
func TestNilDisk(t *testing.T) {
	var d *custody.Disk
	b, e := d.Read(-1)
	same(t, "Read", fmt.Sprint(b, e), "[] 3")
	same(t, "Write", d.Write(-1, make([]byte, 65)), api.ErrNil)
	same(t, "Flush", d.Flush(), api.ErrNil)
	same(t, "Stop", d.Stop(-1), api.ErrNil)
	d.Crash(nil)
	d.Crash([]int{64})
	same(t, "Down", d.Down(), true)
}
